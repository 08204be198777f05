/- part of the proof -/
import Derived.Test.YtghohohagbbajaaGreatDoorYKC
import Derived.Test.YtghohohagbbajaaGreatDoorYK13
import Derived.Deep.RegionLaw
import Derived.Test.YtghohohagbbajaaGreatDoorYBB
set_option linter.unusedVariables false
set_option linter.unusedSimpArgs false
set_option linter.unusedSectionVars false
namespace Go.Proofs.YtghohohagbbajaaGreatDoor
open Go.RowKit Go.Lib
open Lx (Tk)
open Px (Txt TyE VarD DataD TraitD BoundD ImplD ArgD ExprD StmtD ArmD FuncD ModD)
theorem expect_lt {sz:Nat} {ws:List Txt} {y:Txt} {s s':RS} (h:Rel sz (Px.expect ws) s y s') (hw:ws.contains []=false):s'.mu=0∨s'.mu<s.mu:=by
 cases s with
 | dead e o=>simp only[Rel] at h;subst h;exact .inl rfl
 | live ts =>
  by_cases hc:ws.contains (Px.word ts)=true
  ·have h1:Px.expect ws ts=.ok (Px.word ts) ts.tail:=by simp only[Px.expect];rw[if_pos hc]
   simp only[Rel,h1] at h
   rw[h.2]
   cases ts with
   | nil=>simp only[Px.word] at hc;rw[hw] at hc;cases hc
   | cons t r=>right;simp[RS.mu]
  ·have h1:Px.expect ws ts=.bad ts:=by simp only[Px.expect];rw[if_neg hc]
   simp only[Rel,h1] at h
   rw[h]
   exact .inl rfl
def refF (sz n:Nat) (S:Px.Rd StmtD) (off:Nat):Px.Rd FuncD:=do
 let x ← Px.name
 let p ← Px.params
 let a ← Px.possiblyEmptyList [40] (Px.arg sz n) [41]
 let _ ← Px.expect [[45,62]]
 let t ← Px.typeF sz n
 let b ← Px.bounds sz
 let l ← Px.block S
 pure (.mk x p b [] a t l off)
theorem rd_assoc {α β γ:Type} (p:Px.Rd α) (f:α→Px.Rd β) (g:β→Px.Rd γ):((p >>= f) >>= g)=(p >>= fun a=>f a >>= g):=by
 funext ts
 show (match (match p ts with|.ok a r=>f a r|.bad r=>.bad r) with|.ok a r=>g a r|.bad r=>.bad r)=(match p ts with|.ok a r=>(match f a r with|.ok a r=>g a r|.bad r=>.bad r)|.bad r=>.bad r)
 cases p ts <;> rfl
theorem rd_pure {α β:Type} (a:α) (f:α→Px.Rd β):((Pure.pure a:Px.Rd α) >>= f)=f a:=rfl
theorem refF_eq (sz n off:Nat):refF sz n (Px.stmtF sz n n) off=Px.function sz n off:=by
 unfold refF Px.function Px.signature
 simp only[rd_assoc,rd_pure]
set_option maxRecDepth 100000 in
set_option maxHeartbeats 6400000 in
theorem rblock_any (c:RCtx) (s:RS) (w:World) (h:IR c s w) (m:Nat) (S:Px.Rd StmtD) (hst:RL c 99 m (okAgg stmtQ) S) (hstr:Strict S) (hsh:Shr S) (hm2:s.mu≤m) :
  Calls Tryz.prog 69 #[.pointer (some ⟨c.R,0,none⟩)] w (RD c w (okRow 52 17 stmtQ) (Px.block S) s):=by
 have HST:=hid hst
 have HSTR:Hid (Strict S):=hid hstr
 have HSH:Hid (Shr S):=hid hsh
 clear hst hstr hsh
 obtain⟨i0,hi0,iz0,iz1,iz2⟩:=info_parts info_stmt
 have HINF:=hid hi0
 clear hi0
 have H:=hid h
 have HR0:=H.out.lt.1
 clear h
 go_enter Tryz.func69,Tryz.ntmps69
 go_wp2_with fail
 refine(rneed_any c s [123] _ H.out (by decide) (by decide)).mono ?_
 rintro e w1 hp
 obtain⟨rfl,x1,s1,hq1,hf1,hi1⟩:=hp
 have HF1:=hid hf1
 have HI1:=hid hi1
 have hl1:s1.mu=0∨s1.mu<s.mu:=expect_lt hq1.out (by decide)
 have HM1:=HI1.out.mu_le
 clear hf1 hi1
 go_wp2_with fail
 go_loopw [3] (fun v wr=>∃ (acc:List StmtD) (s':RS),ListAt wr w.heap.size 52 17 acc.length (rowsQ stmtQ acc) v∧IR c s' wr∧Fr [c.R] w wr∧s'.mu≤s1.mu∧acc.length+s'.mu≤6002∧UJ c.size S s1 acc s') (fun _ wr=>rMu c wr)
 case atStart=>exact⟨[],s1,.inl ⟨rfl,rfl,rfl⟩,HI1.out,HF1.out,Nat.le_refl _,by simp;omega,UJ.start⟩
 case round =>
  obtain⟨acc,s',hL,hi,hf,hle,hn,hJ⟩:=hrel
  have HJ:=hid hJ
  have HL:=hid hL
  have HI2:=hid hi
  have HF:=hid hf
  clear hJ hL hi hf
  cases s' with
  | dead er o =>
   obtain⟨k,cap,ad,hb,ht,hk,he,hc⟩:=HI2.out.dcells
   have g3:=hb.cell 3
   simp at g3
   have hd:((er:Int) == 0)=false:=by simp;omega
   clear hb ht hk he hc
   go_wp2_with fail
   clear g3
   refine(rneed_any c (RS.dead er o) [125] _ HI2.out (by decide) (by decide)).mono ?_
   rintro e w2 hp
   obtain⟨rfl,x2,s2,hq2,hf2,hi2⟩:=hp
   have HF2:=hid (HF.out.trans hf2)
   have HI3:=hid hi2
   have HL2:=hid (HL.out.keep hf2 (by simpa using H.out.lt.1))
   have HR2:=hid (HJ.out.stop hq2.out (fun ts h=>by cases h))
   clear hf2 hi2
   go_wp2_with fail
   first|go_ret|go_ret2
   exact RD.mk acc s2 (Rel.bind hq1.out HR2.out) HF2.out HI3.out HL2.out.row
  | live ts =>
   obtain⟨k,cap,ad,hb,ht,hk,hts,hc⟩:=HI2.out.cells
   have g3:=hb.cell 3
   simp at g3
   clear hb ht hk hts hc
   go_wp2_with fail
   clear g3
   refine(ris_any c (RS.live ts) [125] _ HI2.out (by decide) (by decide)).mono ?_
   rintro e w2 hp
   rcases hp.isw with ⟨hx,hm,rfl,hf2,hi2⟩|⟨hq2,rfl,hf2,hi2⟩
   ·clear hp
    have HF2:=hid (HF.out.trans hf2)
    have HI3:=hid hi2
    have HL2:=hid (HL.out.keep hf2 (by simpa using H.out.lt.1))
    clear hf2 hi2
    go_wp2_with fail
    refine(rneed_any c (RS.live ts) [125] _ HI3.out (by decide) (by decide)).mono ?_
    rintro e w3 hp
    obtain⟨rfl,x3,s3,hq3,hf3,hi3⟩:=hp
    have HF3:=hid (HF2.out.trans hf3)
    have HI4:=hid hi3
    have HL3:=hid (HL2.out.keep hf3 (by simpa using H.out.lt.1))
    have HR3:=hid (HJ.out.stop hq3.out hx.out)
    clear hf3 hi3
    go_wp2_with fail
    first|go_ret|go_ret2
    exact RD.mk acc s3 (Rel.bind hq1.out HR3.out) HF3.out HI4.out HL3.out.row
   ·clear hp
    have HF2:=hid hf2
    have HI3:=hid hi2
    have HQ2:=hid hq2
    have hb2:=hf2.size
    have hne:(RS.live ts).mu≠0:=by simp[RS.mu]
    clear hf2 hi2 hq2
    go_wp2_with fail
    refine(HST.out (RS.live ts) w2 HI3.out (by omega)).mono ?_
    rintro e w3 hp
    obtain⟨v3,b,s3,rfl,hq3,hf3,hi3,hv3⟩:=hp
    obtain⟨cs,rfl,hrep⟩:=hv3
    obtain⟨y3_0,y3_1,y3_2,y3_3,y3_4,y3_5,y3_6,y3_7,y3_8,y3_9,y3_10,y3_11,y3_12,y3_13,y3_14,y3_15,y3_16,rfl⟩:=cells_17 (hrep.len.trans (len_stmtQ b))
    obtain⟨g1,g2,g3,g4⟩:=append_ready (news:=[y3_0,y3_1,y3_2,y3_3,y3_4,y3_5,y3_6,y3_7,y3_8,y3_9,y3_10,y3_11,y3_12,y3_13,y3_14,y3_15,y3_16]) HL.out hb2 (HF2.out.trans hf3) H.out.lt.1 HF.out.size hrep 52
    have G1:=hid g1
    have G2:=hid g2
    have G3:=hid g3
    have HQ3:=hid hq3
    have HF3:=hid hf3
    have HI4:=hid hi3
    have hle3:=HQ3.out.out.strict HSTR.out hne
    clear g1 g2 g3 hq3 hf3 hi3 hrep
    go_wp2_with (at_builtin;refine wpList_append_list _ rfl _ _ 40 rfl w.heap.size 52 i0 _ 17 296 Tryz.underlying40 HINF.out iz0 iz1 iz2 rfl (by decide) _ acc.length 1 (rowsQ stmtQ acc) (stmtQ b) rfl G1.out ⟨w3.heap.size,0,none⟩ 1 [y3_0,y3_1,y3_2,y3_3,y3_4,y3_5,y3_6,y3_7,y3_8,y3_9,y3_10,y3_11,y3_12,y3_13,y3_14,y3_15,y3_16] rfl (by decide) rfl G2.out G3.out ?c1 (by decide) g4 ?_)
    case c1=>omega
    intro v' w4 hL4 hg4
    have hown:∀ k,u3.ownBlock=some k→w.heap.size≤k:=fun k e=>(HL.out.own k e).1
    have hI4:=(HI4.out.alloc (.cells #[y3_0,y3_1,y3_2,y3_3,y3_4,y3_5,y3_6,y3_7,y3_8,y3_9,y3_10,y3_11,y3_12,y3_13,y3_14,y3_15,y3_16] 52)).grown H.out hg4 hown
    have hF4:=(((HF.out.trans HF2.out).trans HF3.out).alloc (.cells #[y3_0,y3_1,y3_2,y3_3,y3_4,y3_5,y3_6,y3_7,y3_8,y3_9,y3_10,y3_11,y3_12,y3_13,y3_14,y3_15,y3_16] 52)).grown hg4 hown
    have HI5:=hid hI4
    have HF5:=hid hF4
    have HL5:=hid hL4
    clear hI4 hF4 hL4 hg4 hown
    go_wp2_with fail
    go_roundw
    case rel=>exact⟨acc ++ [b],s3,by rw[List.length_append,rowsQ_snoc];exact HL5.out,HI5.out,HF5.out,by omega,by simp;omega,HJ.out.more HSTR.out HQ2.out.out hne HQ3.out.out⟩
    case measure=>rw[HI5.out.rMu,HI2.out.rMu];omega
set_option maxRecDepth 100000 in
set_option maxHeartbeats 1600000 in
theorem rarm_any (c:RCtx) (s:RS) (w:World) (h:IR c s w) (m:Nat) (S:Px.Rd StmtD) (hst:RL c 99 m (okAgg stmtQ) S) (hstr:Strict S) (hsh:Shr S) (hm2:s.mu≤m) :
  Calls Tryz.prog 121 #[.pointer (some ⟨c.R,0,none⟩)] w (RD c w (okAgg armQ) (Px.arm c.size S) s):=by
 have HST:=hid hst
 have HSTR:Hid (Strict S):=hid hstr
 have HSH:Hid (Shr S):=hid hsh
 clear hst hstr hsh
 have H:=hid h
 have HR0:=H.out.lt.1
 clear h
 go_enter Tryz.func121,Tryz.ntmps121
 go_wp2_with fail
 refine(rat_any c s _ (by exact H.out.f [] H.out)).mono ?_
 rintro e w1 ⟨_,x1,s1,rfl,hq1,hf,hi,rfl⟩
 have hT:Fr [c.R] w w1:=Fr.trans frk hf.wide
 have hz1:=hf.size;try simp at hz1
 have HB1:Hid (Blk w1 (w.heap.size) 138 #[zS,zN,zN,zI]):=hid ((Blk.new w _ _).keep hf (by first|(simp;done)|omega|(simp;omega)))
 have HI1:=hid hi
 have HF1:=hid ((Fr.refl [c.R] w).j hT)
 have hl1:=hq1.out.mu (Shr.offset _)
 clear hT hf hi
 go_wp2_with fail
 refine(rname_any c s1 _ (by exact HI1.out.f [] H.out)).mono ?_
 rintro e w2 ⟨_,x2,s2,rfl,hq2,hf,hi,rfl⟩
 obtain⟨hT,HB2,HI2,HF2,hz2⟩:=IR.st [] HB1.out HF1.out hf hi
 try simp at hz2
 have hl2:=hq2.out.mu Shr.name
 clear hT hf hi
 go_wp2_with fail
 refine(rwithin_any c s2 _ (by exact HI2.out.f [] H.out)).mono ?_
 rintro e w3 ⟨v3,x3,s3,rfl,hq3,hf,hi,hv⟩
 obtain⟨p3,n3,k3,rfl⟩:=row_shp hv
 have hV3:=(row_of hv).k (N':=(fun k=>w.heap.size≤k∧k≠w.heap.size)) (Fr.refl [] _)
 obtain⟨hT,HB3,HI3,HF3,hz3⟩:=IR.st [] HB2.out HF2.out hf hi
 try simp at hz3
 have HV3:=hid hV3
 have hl3:=hq3.out.mu (Shr.opt Shr.name _ _)
 clear hT hf hi hV3 hv
 have hneDB:w3.heap.size≠w.heap.size:=by omega
 have hneBD:=hneDB.symm
 go_wp2_with fail
 refine(rblock_any c s3 _ (by exact HI3.out.f [w3.heap.size] H.out) m S HST.out HSTR.out HSH.out (by omega)).mono ?_
 rintro e w4 ⟨v4,x4,s4,rfl,hq4,hf,hi,hv⟩
 obtain⟨p4,n4,k4,rfl⟩:=row_shp hv
 have hV4:=(row_of hv).k (N':=(fun k=>w.heap.size≤k∧k≠w.heap.size∧k≠w3.heap.size)) (Fr.refl [] _)
 obtain⟨hT,HB4,HI4,HF4,hz4⟩:=IR.st [w3.heap.size] HB3.out HF3.out hf hi
 try simp at hz4
 have HD4:Hid (Blk w4 (w3.heap.size) 138 #[.string ⟨x2.toArray⟩,.slice p3 n3 k3,zN,.int .i64 x1]):=hid ((Blk.new_at (by simp)).k hf)
 have HV3_4:=hid (HV3.out.k (N':=(fun k=>w.heap.size≤k∧k≠w.heap.size∧k≠w3.heap.size)) hT)
 have HV4:=hid hV4
 have hl4:=hq4.out.mu (shr_block HSH.out)
 clear hT hf hi hV4 hv
 have hlB:w.heap.size<w4.heap.size:=by omega
 have hlD:=HD4.out.lt
 have d0:=HD4.out.at 0 (v:=.string ⟨x2.toArray⟩) rfl
 have d1:=HD4.out.at 1 (v:=.slice p3 n3 k3) rfl
 obtain⟨d2,f2⟩:=HD4.out.df 2 (v:=.slice none 0 0) rfl
 have d3:=HD4.out.at 3 (v:=.int .i64 x1) rfl
 obtain⟨b0,g0⟩:=HB4.out.df 0 (v:=.string ⟨#[]⟩) rfl
 obtain⟨b1,g1⟩:=HB4.out.df 1 (v:=.slice none 0 0) rfl
 obtain⟨b2,g2⟩:=HB4.out.df 2 (v:=.slice none 0 0) rfl
 obtain⟨b3,g3⟩:=HB4.out.df 3 (v:=.int .i64 0) rfl
 go_wp2_with fail
 refine bodyPost_ret (v:=.agg #[.string ⟨x2.toArray⟩,.slice p3 n3 k3,.slice p4 n4 k4,.int .i64 x1]) (by simp[results,Tryz.results121,go_sem,hlB,hlD,d0,d1,d2,f2,d3,b0,g0,b1,g1,b2,g2,b3,g3]) rfl ?_
 clear hlB hlD d0 d1 d2 f2 d3 b0 g0 b1 g1 b2 g2 b3 g3
 exact RD.mk (.mk x2 x3 x4 x1) s4 (by unfold Px.arm;refine .bind hq1.out<|.bind hq2.out ?_;refine .bind hq3.out<|.bind hq4.out ?_;exact Rel.pure _ _) (HF4.out.jf [w3.heap.size,w.heap.size]) (HI4.out.f [w3.heap.size,w.heap.size] H.out) ⟨_,rfl,by rw[armQ_mk];exact rep_str.2 ⟨_,rfl,rep_sl.2 ⟨_,_,rfl,(HV3_4.out.f [w3.heap.size,w.heap.size]),rep_sl.2 ⟨_,_,rfl,(HV4.out.f [w3.heap.size,w.heap.size]),rep_int.2 ⟨_,rfl,rep_nil.2 rfl⟩⟩⟩⟩⟩
set_option maxRecDepth 100000 in
set_option maxHeartbeats 1600000 in
theorem rfunction_any (c:RCtx) (n:Nat) (o:Nat) (s:RS) (w:World) (h:IR c s w) (m:Nat) (S:Px.Rd StmtD) (hst:RL c 99 m (okAgg stmtQ) S) (hstr:Strict S) (hsh:Shr S) (hm2:s.mu≤m) (hm:s.mu≤n) :
  Calls Tryz.prog 29 #[.pointer (some ⟨c.R,0,none⟩),.int .i64 o] w (RD c w (okAgg funcQ) (refF c.size n S o) s):=by
 have HST:=hid hst
 have HSTR:Hid (Strict S):=hid hstr
 have HSH:Hid (Shr S):=hid hsh
 clear hst hstr hsh
 have H:=hid h
 have HR0:=H.out.lt.1
 clear h
 go_enter Tryz.func29,Tryz.ntmps29
 go_wp2_with fail
 refine(rname_any c s _ (by exact H.out.f [] H.out)).mono ?_
 rintro e w1 ⟨_,x1,s1,rfl,hq1,hf,hi,rfl⟩
 have hT:Fr [c.R] w w1:=Fr.trans frk hf.wide
 have hz1:=hf.size;try simp at hz1
 have HB1:Hid (Blk w1 (w.heap.size) 42 #[zS,zN,zN,zN,zN,zS,zN,zI,zN,zI]):=hid ((Blk.new w _ _).keep hf (by first|(simp;done)|omega|(simp;omega)))
 have HI1:=hid hi
 have HF1:=hid ((Fr.refl [c.R] w).j hT)
 have hl1:=hq1.out.mu Shr.name
 clear hT hf hi
 go_wp2_with fail
 refine(rparams_any c s1 _ (by exact HI1.out.f [] H.out)).mono ?_
 rintro e w2 ⟨v2,x2,s2,rfl,hq2,hf,hi,hv⟩
 obtain⟨p2,n2,k2,rfl⟩:=row_shp hv
 have hV2:=(row_of hv).k (N':=(fun k=>w.heap.size≤k∧k≠w.heap.size)) (Fr.refl [] _)
 obtain⟨hT,HB2,HI2,HF2,hz2⟩:=IR.st [] HB1.out HF1.out hf hi
 try simp at hz2
 have HV2:=hid hV2
 have hl2:=hq2.out.mu shr_params
 clear hT hf hi hV2 hv
 have hneDB:w2.heap.size≠w.heap.size:=by omega
 have hneBD:=hneDB.symm
 go_wp2_with (refine wpList_store_row rfl 42 _ _ rfl (w2.heap.size) #[.string ⟨x1.toArray⟩,.slice p2 n2 k2,.slice none 0 0,.slice none 0 0,.slice none 0 0,.string ⟨#[]⟩,.slice none 0 0,.int .i64 0,.slice none 0 0,.int .i64 o] rfl rfl 42 _ (Blk.new_at (by simp)) rfunc_size rfl (by simp[Value.oneCell']) ?_)
 refine(rargs_any c s2 _ (by exact HI2.out.f [w2.heap.size] H.out) n (by omega)).mono ?_
 rintro e w3 ⟨v3,x3,s3,rfl,hq3,hf,hi,hv⟩
 obtain⟨p3,n3,k3,rfl⟩:=row_shp hv
 have hV3:=(row_of hv).k (N':=(fun k=>w.heap.size≤k∧k≠w.heap.size∧k≠w2.heap.size)) (Fr.refl [] _)
 obtain⟨hT,HB3,HI3,HF3,hz3⟩:=IR.st [w2.heap.size] HB2.out HF2.out hf hi
 try simp at hz3
 have HD3:Hid (Blk w3 (w2.heap.size) 42 #[.string ⟨x1.toArray⟩,.slice p2 n2 k2,zN,zN,zN,zS,zN,zI,zN,.int .i64 o]):=hid ((show Blk _ (w2.heap.size) 42 #[.string ⟨x1.toArray⟩,.slice p2 n2 k2,zN,zN,zN,zS,zN,zI,zN,.int .i64 o] from setRow_heap _ _ _ _ _ _ (Blk.new_at (by simp))).k hf)
 have HV2_3:=hid (HV2.out.k (N':=(fun k=>w.heap.size≤k∧k≠w.heap.size∧k≠w2.heap.size)) hT)
 have HV3:=hid hV3
 have hl3:=hq3.out.mu (Shr.pos (shr_arg _ _) _ _)
 clear hT hf hi hV3 hv
 have hlD:=HD3.out.lt
 obtain⟨d4,f4⟩:=HD3.out.df 4 (v:=.slice none 0 0) rfl
 go_wp2_with fail
 clear hlD d4 f4
 refine(rneed_q c s3 [45,62] _ (by exact HI3.out.f [w2.heap.size] H.out)).mono ?_
 rintro e w4 ⟨rfl,x4,s4,hq4,hf,hi⟩
 obtain⟨hT,HB4,HI4,HF4,hz4⟩:=IR.st [w2.heap.size] HB3.out HF3.out hf hi
 try simp at hz4
 have HD4:Hid (Blk w4 (w2.heap.size) 42 #[.string ⟨x1.toArray⟩,.slice p2 n2 k2,zN,zN,.slice p3 n3 k3,zS,zN,zI,zN,.int .i64 o]):=hid ((HD3.out.set 4 (.slice p3 n3 k3)).k hf)
 have HV2_4:=hid (HV2_3.out.ks hT)
 have HV3_4:=hid (HV3.out.ks hT)
 have hl4:=hq4.out.mu (Shr.expect _)
 clear hT hf hi
 have hlD:=HD4.out.lt
 go_wp2_with fail
 clear hlD
 refine(rtyped_any c n n s4 _ (by exact HI4.out.f [w2.heap.size] H.out) (by omega) (by omega)).mono ?_
 rintro e w5 ⟨v5,x5,s5,rfl,hq5,hf,hi,hv⟩
 obtain⟨cs,rfl,hrep⟩:=hv
 obtain⟨s5_0,p5_1,n5_1,c5_1,i5_2,rfl⟩:=hrep.c_typeQ
 have hV5:=hrep.k (N':=(fun k=>w.heap.size≤k∧k≠w.heap.size∧k≠w2.heap.size)) (Fr.refl [] _)
 obtain⟨hT,HB5,HI5,HF5,hz5⟩:=IR.st [w2.heap.size] HB4.out HF4.out hf hi
 try simp at hz5
 have HD5:=hid (HD4.out.k hf)
 have HV2_5:=hid (HV2_4.out.ks hT)
 have HV3_5:=hid (HV3_4.out.ks hT)
 have HV5:=hid hV5
 have hl5:=hq5.out.mu (shr_typeF _ _)
 clear hT hf hi hV5 hrep
 have hlD:=HD5.out.lt
 obtain⟨d5,f5⟩:=HD5.out.df 5 (v:=.string ⟨#[]⟩) rfl
 obtain⟨d6,f6⟩:=HD5.out.df 6 (v:=.slice none 0 0) rfl
 obtain⟨d7,f7⟩:=HD5.out.df 7 (v:=.int .i64 0) rfl
 go_wp2_with fail
 clear hlD d5 f5 d6 f6 d7 f7
 refine(rbounds_any c s5 _ (by exact HI5.out.f [w2.heap.size] H.out)).mono ?_
 rintro e w6 ⟨v6,x6,s6,rfl,hq6,hf,hi,hv⟩
 obtain⟨p6,n6,k6,rfl⟩:=row_shp hv
 have hV6:=(row_of hv).k (N':=(fun k=>w.heap.size≤k∧k≠w.heap.size∧k≠w2.heap.size)) (Fr.refl [] _)
 obtain⟨hT,HB6,HI6,HF6,hz6⟩:=IR.st [w2.heap.size] HB5.out HF5.out hf hi
 try simp at hz6
 have HD6:Hid (Blk w6 (w2.heap.size) 42 #[.string ⟨x1.toArray⟩,.slice p2 n2 k2,zN,zN,.slice p3 n3 k3,.string s5_0,.slice p5_1 n5_1 c5_1,.int .i64 i5_2,zN,.int .i64 o]):=hid ((((HD5.out.set 5 (.string s5_0)).set 6 (.slice p5_1 n5_1 c5_1)).set 7 (.int .i64 i5_2)).k hf)
 have HV2_6:=hid (HV2_5.out.ks hT)
 have HV3_6:=hid (HV3_5.out.ks hT)
 have HV5_6:=hid (HV5.out.ks hT)
 have HV6:=hid hV6
 have hl6:=hq6.out.mu (shr_bounds _)
 clear hT hf hi hV6 hv
 have hlD:=HD6.out.lt
 obtain⟨d2,f2⟩:=HD6.out.df 2 (v:=.slice none 0 0) rfl
 go_wp2_with fail
 clear hlD d2 f2
 refine(rblock_any c s6 _ (by exact HI6.out.f [w2.heap.size] H.out) m S HST.out HSTR.out HSH.out (by omega)).mono ?_
 rintro e w7 ⟨v7,x7,s7,rfl,hq7,hf,hi,hv⟩
 obtain⟨p7,n7,k7,rfl⟩:=row_shp hv
 have hV7:=(row_of hv).k (N':=(fun k=>w.heap.size≤k∧k≠w.heap.size∧k≠w2.heap.size)) (Fr.refl [] _)
 obtain⟨hT,HB7,HI7,HF7,hz7⟩:=IR.st [w2.heap.size] HB6.out HF6.out hf hi
 try simp at hz7
 have HD7:Hid (Blk w7 (w2.heap.size) 42 #[.string ⟨x1.toArray⟩,.slice p2 n2 k2,.slice p6 n6 k6,zN,.slice p3 n3 k3,.string s5_0,.slice p5_1 n5_1 c5_1,.int .i64 i5_2,zN,.int .i64 o]):=hid ((HD6.out.set 2 (.slice p6 n6 k6)).k hf)
 have HV2_7:=hid (HV2_6.out.ks hT)
 have HV3_7:=hid (HV3_6.out.ks hT)
 have HV5_7:=hid (HV5_6.out.ks hT)
 have HV6_7:=hid (HV6.out.ks hT)
 have HV7:=hid hV7
 have hl7:=hq7.out.mu (shr_block HSH.out)
 clear hT hf hi hV7 hv
 have hlD:=HD7.out.lt
 obtain⟨d8,f8⟩:=HD7.out.df 8 (v:=.slice none 0 0) rfl
 go_wp2_with (first|(refine wpList_load_row rfl 42 _ rfl (w2.heap.size) rfl 42 #[.string ⟨x1.toArray⟩,.slice p2 n2 k2,.slice p6 n6 k6,.slice none 0 0,.slice p3 n3 k3,.string s5_0,.slice p5_1 n5_1 c5_1,.int .i64 i5_2,.slice p7 n7 k7,.int .i64 o] (0,0) _ (HD7.out.set 8 (.slice p7 n7 k7)) Tryz.underlying42 rfl rfunc_size ?_)|(refine wpList_store_row rfl 42 _ _ rfl (w.heap.size) _ rfl rfl 42 _ (HB7.out.row [w2.heap.size]) rfunc_size rfl (by simp[Value.oneCell']) ?_))
 refine bodyPost_ret (results_cell_row (p:=4) rfl _ _ (w.heap.size) 42 _ (0,0) _ rfl (setRow_heap _ _ _ _ _ _ (HB7.out.row [w2.heap.size])) Tryz.underlying42 rfl rfunc_size) rfl ?_
 clear hlD d8 f8
 exact RD.mk (.mk x1 x2 x6 [] x3 x5 x7 o) s7 (by unfold refF;refine .bind hq1.out<|.bind hq2.out ?_;refine .bind hq3.out<|.bind hq4.out ?_;refine .bind hq5.out<|.bind hq6.out<|.bind hq7.out ?_;exact Rel.pure _ _) (HF7.out.jf [w2.heap.size,w.heap.size]) (HI7.out.f [w2.heap.size,w.heap.size] H.out) ⟨_,rfl,(by rw[funcQ_mk];unfold strsQ boundsS argsS stmtsS;exact rep_str.2 ⟨_,rfl,rep_sl.2 ⟨_,_,rfl,(HV2_7.out.f [w2.heap.size,w.heap.size]),rep_sl.2 ⟨_,_,rfl,(HV6_7.out.f [w2.heap.size,w.heap.size]),rep_sl.2 ⟨_,_,rfl,RowV.nil _ _ _ _,rep_sl.2 ⟨_,_,rfl,(HV3_7.out.f [w2.heap.size,w.heap.size]),Rep.app (cs:=[.string s5_0,.slice p5_1 n5_1 c5_1,.int .i64 i5_2]) (HV5_7.out.f [w2.heap.size,w.heap.size]) (rep_sl.2 ⟨_,_,rfl,(HV7.out.f [w2.heap.size,w.heap.size]),rep_int.2 ⟨_,rfl,rep_nil.2 rfl⟩⟩)⟩⟩⟩⟩⟩)⟩
def refLo (sz n:Nat) (S:Px.Rd StmtD) (off:Nat):Px.Rd FuncD:=do
 let x ← Px.name
 let c ← Px.possiblyEmptyList [91] (Px.capture sz n) [93]
 let a ← Px.possiblyEmptyList [40] (Px.arg sz n) [41]
 let _ ← Px.expect [[45,62]]
 let t ← Px.typeF sz n
 let l ← Px.block S
 pure (.mk x [] [] c a t l off)
theorem refLo_eq (sz n off:Nat) (S:Px.Rd StmtD):refLo sz n S off=Px.localFunction sz n S off:=by
 unfold refLo Px.localFunction Px.signature
 simp only[rd_assoc,rd_pure]
set_option maxRecDepth 100000 in
set_option maxHeartbeats 6400000 in
theorem rlocal_any (c:RCtx) (n:Nat) (o:Nat) (s:RS) (w:World) (h:IR c s w) (m:Nat) (S:Px.Rd StmtD) (hst:RL c 99 m (okAgg stmtQ) S) (hstr:Strict S) (hsh:Shr S) (hm2:s.mu≤m) (hm:s.mu≤n) :
  Calls Tryz.prog 124 #[.pointer (some ⟨c.R,0,none⟩),.int .i64 o] w (RD c w (okAgg funcQ) (refLo c.size n S o) s):=by
 have HST:=hid hst
 have HSTR:Hid (Strict S):=hid hstr
 have HSH:Hid (Shr S):=hid hsh
 clear hst hstr hsh
 obtain⟨i0,hi0,iz0,iz1,iz2⟩:=info_parts info_arg
 have HINF:=hid hi0
 clear hi0
 have H:=hid h
 have HR0:=H.out.lt.1
 clear h
 go_enter Tryz.func124,Tryz.ntmps124
 go_wp2_with fail
 refine(rname_any c s _ (by exact H.out.f [] H.out)).mono ?_
 rintro e w1 ⟨_,x1,s1,rfl,hq1,hf,hi,rfl⟩
 have hT:Fr [c.R] w w1:=Fr.trans frk hf.wide
 have hz1:=hf.size;try simp at hz1
 have HB1:Hid (Blk w1 (w.heap.size) 42 #[zS,zN,zN,zN,zN,zS,zN,zI,zN,zI]):=hid ((Blk.new w _ _).keep hf (by first|(simp;done)|omega|(simp;omega)))
 have HI1:=hid hi
 have HF1:=hid ((Fr.refl [c.R] w).j hT)
 have hl1:=hq1.out.mu Shr.name
 clear hT hf hi
 have hneDB:w1.heap.size≠w.heap.size:=by omega
 have hneBD:=hneDB.symm
 go_wp2_with (refine wpList_store_row rfl 42 _ _ rfl (w1.heap.size) #[.string ⟨x1.toArray⟩,.slice none 0 0,.slice none 0 0,.slice none 0 0,.slice none 0 0,.string ⟨#[]⟩,.slice none 0 0,.int .i64 0,.slice none 0 0,.int .i64 o] rfl rfl 42 _ (Blk.new_at (by simp)) rfunc_size rfl (by simp[Value.oneCell']) ?_)
 refine(rneed_q c s1 [91] _ (by exact HI1.out.f [w1.heap.size] H.out)).mono ?_
 rintro e w2 ⟨rfl,x2,s2,hq2,hf,hi⟩
 obtain⟨hT,HB2,HI2,HF2,hz2⟩:=IR.st [w1.heap.size] HB1.out HF1.out hf hi
 try simp at hz2
 have HD2:Hid (Blk w2 (w1.heap.size) 42 #[.string ⟨x1.toArray⟩,zN,zN,zN,zN,zS,zN,zI,zN,.int .i64 o]):=hid ((show Blk _ (w1.heap.size) 42 #[.string ⟨x1.toArray⟩,zN,zN,zN,zN,zS,zN,zI,zN,.int .i64 o] from setRow_heap _ _ _ _ _ _ (Blk.new_at (by simp))).k hf)
 have hl2:=hq2.out.mu (Shr.expect _)
 clear hT hf hi
 have hlD:=HD2.out.lt
 go_wp2_with fail
 clear hlD
 refine(ris_q c s2 [93] _ (by exact HI2.out.f [w1.heap.size] H.out)).mono ?_
 rintro e w3 (⟨hx3,hm3,rfl,hf,hi⟩|⟨hq3,rfl,hf,hi⟩)
 ·skip
  obtain⟨hT,HB3,HI3,HF3,hz3⟩:=IR.st [w1.heap.size] HB2.out HF2.out hf hi
  try simp at hz3
  have HD3:=hid (HD2.out.k hf)
  clear hT hf hi
  have hlD:=HD3.out.lt
  go_wp2_with fail
  clear hlD
  refine(rneed_q c s2 [93] _ (by exact HI3.out.f [w1.heap.size] H.out)).mono ?_
  rintro e w4 ⟨rfl,x4,s4,hq4,hf,hi⟩
  obtain⟨hT,HB4,HI4,HF4,hz4⟩:=IR.st [w1.heap.size] HB3.out HF3.out hf hi
  try simp at hz4
  have HD4:=hid (HD3.out.k hf)
  have hl4:=hq4.out.mu (Shr.expect _)
  clear hT hf hi
  have hlD:=HD4.out.lt
  go_wp2_with fail
  clear hlD
  refine(rargs_any c s4 _ (by exact HI4.out.f [w1.heap.size] H.out) n (by omega)).mono ?_
  rintro e w5 ⟨v5,x5,s5,rfl,hq5,hf,hi,hv⟩
  obtain⟨p5,n5,k5,rfl⟩:=row_shp hv
  have hV5:=(row_of hv).k (N':=(fun k=>w.heap.size≤k∧k≠w.heap.size∧k≠w1.heap.size)) (Fr.refl [] _)
  obtain⟨hT,HB5,HI5,HF5,hz5⟩:=IR.st [w1.heap.size] HB4.out HF4.out hf hi
  try simp at hz5
  have HD5:=hid (HD4.out.k hf)
  have HV5:=hid hV5
  have hl5:=hq5.out.mu (Shr.pos (shr_arg _ _) _ _)
  clear hT hf hi hV5 hv
  have hlD:=HD5.out.lt
  obtain⟨d4,f4⟩:=HD5.out.df 4 (v:=.slice none 0 0) rfl
  go_wp2_with fail
  clear hlD d4 f4
  refine(rneed_q c s5 [45,62] _ (by exact HI5.out.f [w1.heap.size] H.out)).mono ?_
  rintro e w6 ⟨rfl,x6,s6,hq6,hf,hi⟩
  obtain⟨hT,HB6,HI6,HF6,hz6⟩:=IR.st [w1.heap.size] HB5.out HF5.out hf hi
  try simp at hz6
  have HD6:Hid (Blk w6 (w1.heap.size) 42 #[.string ⟨x1.toArray⟩,zN,zN,zN,.slice p5 n5 k5,zS,zN,zI,zN,.int .i64 o]):=hid ((HD5.out.set 4 (.slice p5 n5 k5)).k hf)
  have HV5_6:=hid (HV5.out.ks hT)
  have hl6:=hq6.out.mu (Shr.expect _)
  clear hT hf hi
  have hlD:=HD6.out.lt
  go_wp2_with fail
  clear hlD
  refine(rtyped_any c n n s6 _ (by exact HI6.out.f [w1.heap.size] H.out) (by omega) (by omega)).mono ?_
  rintro e w7 ⟨v7,x7,s7,rfl,hq7,hf,hi,hv⟩
  obtain⟨cs,rfl,hrep⟩:=hv
  obtain⟨s7_0,p7_1,n7_1,c7_1,i7_2,rfl⟩:=hrep.c_typeQ
  have hV7:=hrep.k (N':=(fun k=>w.heap.size≤k∧k≠w.heap.size∧k≠w1.heap.size)) (Fr.refl [] _)
  obtain⟨hT,HB7,HI7,HF7,hz7⟩:=IR.st [w1.heap.size] HB6.out HF6.out hf hi
  try simp at hz7
  have HD7:=hid (HD6.out.k hf)
  have HV5_7:=hid (HV5_6.out.ks hT)
  have HV7:=hid hV7
  have hl7:=hq7.out.mu (shr_typeF _ _)
  clear hT hf hi hV7 hrep
  have hlD:=HD7.out.lt
  obtain⟨d5,f5⟩:=HD7.out.df 5 (v:=.string ⟨#[]⟩) rfl
  obtain⟨d6,f6⟩:=HD7.out.df 6 (v:=.slice none 0 0) rfl
  obtain⟨d7,f7⟩:=HD7.out.df 7 (v:=.int .i64 0) rfl
  go_wp2_with fail
  clear hlD d5 f5 d6 f6 d7 f7
  refine(rblock_any c s7 _ (by exact HI7.out.f [w1.heap.size] H.out) m S HST.out HSTR.out HSH.out (by omega)).mono ?_
  rintro e w8 ⟨v8,x8,s8,rfl,hq8,hf,hi,hv⟩
  obtain⟨p8,n8,k8,rfl⟩:=row_shp hv
  have hV8:=(row_of hv).k (N':=(fun k=>w.heap.size≤k∧k≠w.heap.size∧k≠w1.heap.size)) (Fr.refl [] _)
  obtain⟨hT,HB8,HI8,HF8,hz8⟩:=IR.st [w1.heap.size] HB7.out HF7.out hf hi
  try simp at hz8
  have HD8:Hid (Blk w8 (w1.heap.size) 42 #[.string ⟨x1.toArray⟩,zN,zN,zN,.slice p5 n5 k5,.string s7_0,.slice p7_1 n7_1 c7_1,.int .i64 i7_2,zN,.int .i64 o]):=hid ((((HD7.out.set 5 (.string s7_0)).set 6 (.slice p7_1 n7_1 c7_1)).set 7 (.int .i64 i7_2)).k hf)
  have HV5_8:=hid (HV5_7.out.ks hT)
  have HV7_8:=hid (HV7.out.ks hT)
  have HV8:=hid hV8
  have hl8:=hq8.out.mu (shr_block HSH.out)
  clear hT hf hi hV8 hv
  have hlD:=HD8.out.lt
  obtain⟨d8,f8⟩:=HD8.out.df 8 (v:=.slice none 0 0) rfl
  go_wp2_with (first|(refine wpList_load_row rfl 42 _ rfl (w1.heap.size) rfl 42 #[.string ⟨x1.toArray⟩,.slice none 0 0,.slice none 0 0,.slice none 0 0,.slice p5 n5 k5,.string s7_0,.slice p7_1 n7_1 c7_1,.int .i64 i7_2,.slice p8 n8 k8,.int .i64 o] (0,0) _ (HD8.out.set 8 (.slice p8 n8 k8)) Tryz.underlying42 rfl rfunc_size ?_)|(refine wpList_store_row rfl 42 _ _ rfl (w.heap.size) _ rfl rfl 42 _ (HB8.out.row [w1.heap.size]) rfunc_size rfl (by simp[Value.oneCell']) ?_))
  refine bodyPost_ret (results_cell_row (p:=4) rfl _ _ (w.heap.size) 42 _ (0,0) _ rfl (setRow_heap _ _ _ _ _ _ (HB8.out.row [w1.heap.size])) Tryz.underlying42 rfl rfunc_size) rfl ?_
  clear hlD d8 f8
  exact RD.mk (.mk x1 [] [] [] x5 x7 x8 o) s8 (by unfold refLo;refine Rel.bind hq1.out ?_;refine Rel.bind (Rel.posNo hq2.out hq4.out hx3.out) ?_;refine .bind hq5.out<|.bind hq6.out ?_;refine .bind hq7.out<|.bind hq8.out ?_;exact Rel.pure _ _) (HF8.out.jf [w1.heap.size,w.heap.size]) (HI8.out.f [w1.heap.size,w.heap.size] H.out) ⟨_,rfl,(by rw[funcQ_mk];unfold strsQ boundsS argsS stmtsS;exact rep_str.2 ⟨_,rfl,rep_sl.2 ⟨_,_,rfl,RowV.nil _ _ _ _,rep_sl.2 ⟨_,_,rfl,RowV.nil _ _ _ _,rep_sl.2 ⟨_,_,rfl,RowV.nil _ _ _ _,rep_sl.2 ⟨_,_,rfl,(HV5_8.out.f [w1.heap.size,w.heap.size]),Rep.app (cs:=[.string s7_0,.slice p7_1 n7_1 c7_1,.int .i64 i7_2]) (HV7_8.out.f [w1.heap.size,w.heap.size]) (rep_sl.2 ⟨_,_,rfl,(HV8.out.f [w1.heap.size,w.heap.size]),rep_int.2 ⟨_,rfl,rep_nil.2 rfl⟩⟩)⟩⟩⟩⟩⟩)⟩
 ·skip
  obtain⟨hT,HB3,HI3,HF3,hz3⟩:=IR.st [w1.heap.size] HB2.out HF2.out hf hi
  try simp at hz3
  have HD3:=hid (HD2.out.k hf)
  clear hT hf hi
  go_wp2_with fail
  have HL0:Hid (ListAt w3 (w1.heap.size+1) 155 6 0 .nil (.slice none 0 0)):=hid (.inl ⟨rfl,rfl,rfl⟩)
  have hlD:=HD3.out.lt
  obtain⟨d3,f3⟩:=HD3.out.df 3 (v:=.slice none 0 0) rfl
  have hbw:(w1.heap.size+1)≤w3.heap.size:=by omega
  have hRb:c.R<(w1.heap.size+1):=by omega
  go_region_law (first|(refine step_append_list _ (by rfl) _ _ 36 (by rfl) ((w1.heap.size+1)) 155 i0 _ 6 80 Tryz.underlying36 HINF.out iz0 iz1 iz2 rfl (by decide) (.slice none 0 0) (0) 1 (.nil) (argQ x9) (by rfl) G1.out ⟨w9.heap.size,0,none⟩ 1 [.string s9_0,.string s9_1,.slice p9_2 n9_2 c9_2,.int .i64 i9_3,.int .i64 i9_4,.int .i64 i9_5] (by rfl) (by decide) rfl G2.out G3.out (by decide) (by decide) g4 ?_;intro p' c' w10 hL10 hg10;have hown:∀ k,(.slice none 0 0:Value).ownBlock=some k→(w1.heap.size+1)≤k:=(fun k e=>(HL0.out.own k e).1);have HD10:=hid ((HD9.out.alloc _).grown hg10 (fun k e=>by have:=hown k e;omega));obtain⟨k10,m10⟩:=HD10.out.df 3 (v:=.slice none 0 0) rfl;have HL10:=hid hL10;have HG10:=hid hg10;clear hL10 hg10)|(go_simp;go_at_call 143;refine(rcapture_any c s2 _ (by exact(HI3.out.f [] H.out)) n (by omega)).mono ?_;rintro e w9 hp;obtain⟨v9,x9,s9,rfl,hq9,hf9,hi9,hv9⟩:=hp;have hx9:Fr [c.R] w3 w9:=Fr.trans frk hf9;obtain⟨cs,rfl,hrep0⟩:=hv9;have hrep:Rep w9 (fun k=>w3.heap.size≤k) (argQ x9) cs:=hrep0;obtain⟨s9_0,s9_1,p9_2,n9_2,c9_2,i9_3,i9_4,i9_5,rfl⟩:=hrep.c_argQ;have HD9:=hid (HD3.out.k hx9);have k9:=HD9.out.at 3 (v:=.slice none 0 0) rfl;have hlx9:=HD9.out.lt;obtain⟨g1,g2,g3,g4⟩:=append_ready (news:=[.string s9_0,.string s9_1,.slice p9_2 n9_2 c9_2,.int .i64 i9_3,.int .i64 i9_4,.int .i64 i9_5]) HL0.out (Nat.le_refl _) hx9 hRb hbw hrep 155;have G1:=hid g1;have G2:=hid g2;have G3:=hid g3;have HX9:=hid hx9;have HI9c:=hid hi9;have hh9:w3.heap.size≤w9.heap.size:=hx9.size;clear g1 g2 g3 hrep hx9 hi9 hf9))
  all_goals
   have hFG:FrB [c.R] ((w1.heap.size+1)) w3 w10:=frb_grown (HX9.out.alloc (.cells #[.string s9_0,.string s9_1,.slice p9_2 n9_2 c9_2,.int .i64 i9_3,.int .i64 i9_4,.int .i64 i9_5] 155)) HG10.out hown
   have hz10:w3.heap.size≤w10.heap.size:=hFG.size
   have HI10:Hid (IR c s9 w10):=hid ((HI9c.out.alloc _).grown H.out HG10.out (fun k e=>by have:=hown k e;omega))
   have HB10:=hid (((HB3.out.k HX9.out).alloc _).grown HG10.out (fun k e=>by have:=hown k e;omega))
   have HF10:Hid (Fr [c.R] w w10):=hid (HF3.out.frb hFG (by omega))
   clear k10 m10 hFG
   have hlc9:s9.mu≤s2.mu:=hq9.out.mu (shr_capture _ _)
   go_wp2_with fail
   obtain⟨wz,hwz⟩:∃ wz,wz=w10.setCell ⟨w1.heap.size,3,none⟩ (.slice p' (0+1) c'):=⟨_,rfl⟩
   have hfz:Fr [c.R,w1.heap.size] w10 wz:=by rw[hwz];exact frk
   have HIz:Hid (IR c s9 wz):=hid (by rw[hwz];exact HI10.out.f [w1.heap.size] H.out)
   have HFz:=hid (HF10.out.j hfz)
   have HDz:Hid (Blk wz (w1.heap.size) 42 #[.string ⟨x1.toArray⟩,zN,zN,.slice p' (0+1) c',zN,zS,zN,zI,zN,.int .i64 o]):=hid (by rw[hwz];exact HD10.out.set 3 _)
   have HBz:Hid (Blk wz (w.heap.size) 42 #[zS,zN,zN,zN,zN,zS,zN,zI,zN,zI]):=hid (HB10.out.keep hfz (by first|(simp;done)|omega|(simp;omega)))
   have HLz:Hid (ListAt wz (w1.heap.size+1) 155 6 [x9].length (rowsQ argQ [x9]) (.slice p' (0+1) c')):=hid (by rw[rowsQ_one];exact HL10.out.keep hfz (by first|(simp;done)|omega|(simp;omega)))
   have hzz:w10.heap.size≤wz.heap.size:=hfz.size
   rw[← hwz]
   clear hwz hfz
   go_loopw [] (fun wr=>∃ (acc:List ArgD) (s':RS) (pc:Option Addr) (cc:Nat),ListAt wr (w1.heap.size+1) 155 6 acc.length (rowsQ argQ acc) (.slice pc acc.length cc)∧IR c s' wr∧Fr [c.R] w wr∧wz.heap.size≤wr.heap.size∧Blk wr (w1.heap.size) 42 #[.string ⟨x1.toArray⟩,zN,zN,.slice pc acc.length cc,zN,zS,zN,zI,zN,.int .i64 o]∧Blk wr (w.heap.size) 42 #[zS,zN,zN,zN,zN,zS,zN,zI,zN,zI]∧s'.mu≤s2.mu∧acc.length+s'.mu≤6002∧LJ c.size (Px.capture c.size n) s2 acc s') (fun wr=>rMu c wr)
   case atStart=>exact⟨[x9],s9,_,_,HLz.out,HIz.out,HFz.out,Nat.le_refl _,HDz.out,HBz.out,(by first|(simp;done)|omega|(simp;omega)),by (try simp);have:=HIz.out.mu_le;omega,LJ.start (shr_capture _ _) hq9.out⟩
   case round =>
    obtain⟨acc,s',pc,cc,hL,hi,hf,hzz,hD,hB,hle,hn,hJ⟩:=hrel
    have HL:=hid hL
    have HI2:=hid hi
    have HF:=hid hf
    have HDR:=hid hD
    have HBR:=hid hB
    have HJ:=hid hJ
    clear hL hi hf hD hB hJ
    go_wp2_with fail
    refine(rnext_any c s' [44] _ (by exact HI2.out.f [w1.heap.size] H.out) (by decide) (by decide)).mono ?_
    rintro e w11 hp
    rcases hp.next with ⟨s11,hq11,hl11,rfl,hf,hi⟩|⟨hq11,rfl,hf,hi⟩
    ·clear hp
     have hfk11:=hid hf
     obtain⟨hT,HB11,HI11,HF11,hz11⟩:=IR.st [w1.heap.size] HBR.out HF.out hf hi
     try simp at hz11
     have HD11:=hid (HDR.out.k hf)
     clear hT hf hi
     go_wp2_with fail
     have HLY:=hid (HL.out.keep hfk11.out (by simp;omega))
     have hlD:=HD11.out.lt
     obtain⟨d3,f3⟩:=HD11.out.df 3 (v:=.slice pc acc.length cc) rfl
     have hbw:(w1.heap.size+1)≤w11.heap.size:=by omega
     have hRb:c.R<(w1.heap.size+1):=by omega
     go_region_law (first|(refine step_append_list _ (by rfl) _ _ 36 (by rfl) ((w1.heap.size+1)) 155 i0 _ 6 80 Tryz.underlying36 HINF.out iz0 iz1 iz2 rfl (by decide) (.slice pc acc.length cc) (acc.length) 1 (rowsQ argQ acc) (argQ x12) (by rfl) G1.out ⟨w12.heap.size,0,none⟩ 1 [.string s12_0,.string s12_1,.slice p12_2 n12_2 c12_2,.int .i64 i12_3,.int .i64 i12_4,.int .i64 i12_5] (by rfl) (by decide) rfl G2.out G3.out (by omega) (by decide) g4 ?_;intro p' c' w13 hL13 hg13;have hown:∀ k,(.slice pc acc.length cc:Value).ownBlock=some k→(w1.heap.size+1)≤k:=(fun k e=>(HLY.out.own k e).1);have HD13:=hid ((HD12.out.alloc _).grown hg13 (fun k e=>by have:=hown k e;omega));obtain⟨k13,m13⟩:=HD13.out.df 3 (v:=.slice pc acc.length cc) rfl;have HL13:=hid hL13;have HG13:=hid hg13;clear hL13 hg13)|(go_simp;go_at_call 143;refine(rcapture_any c s11 _ (by exact(HI11.out.f [] H.out)) n (by omega)).mono ?_;rintro e w12 hp;obtain⟨v12,x12,s12,rfl,hq12,hf12,hi12,hv12⟩:=hp;have hx12:Fr [c.R] w11 w12:=Fr.trans frk hf12;obtain⟨cs,rfl,hrep0⟩:=hv12;have hrep:Rep w12 (fun k=>w11.heap.size≤k) (argQ x12) cs:=hrep0;obtain⟨s12_0,s12_1,p12_2,n12_2,c12_2,i12_3,i12_4,i12_5,rfl⟩:=hrep.c_argQ;have HD12:=hid (HD11.out.k hx12);have k12:=HD12.out.at 3 (v:=.slice pc acc.length cc) rfl;have hlx12:=HD12.out.lt;obtain⟨g1,g2,g3,g4⟩:=append_ready (news:=[.string s12_0,.string s12_1,.slice p12_2 n12_2 c12_2,.int .i64 i12_3,.int .i64 i12_4,.int .i64 i12_5]) HLY.out (Nat.le_refl _) hx12 hRb hbw hrep 155;have G1:=hid g1;have G2:=hid g2;have G3:=hid g3;have HX12:=hid hx12;have HI12c:=hid hi12;have hh12:w11.heap.size≤w12.heap.size:=hx12.size;clear g1 g2 g3 hrep hx12 hi12 hf12))
     all_goals
      have hFG:FrB [c.R] ((w1.heap.size+1)) w11 w13:=frb_grown (HX12.out.alloc (.cells #[.string s12_0,.string s12_1,.slice p12_2 n12_2 c12_2,.int .i64 i12_3,.int .i64 i12_4,.int .i64 i12_5] 155)) HG13.out hown
      have hz13:w11.heap.size≤w13.heap.size:=hFG.size
      have HI13:Hid (IR c s12 w13):=hid ((HI12c.out.alloc _).grown H.out HG13.out (fun k e=>by have:=hown k e;omega))
      have HB13:=hid (((HB11.out.k HX12.out).alloc _).grown HG13.out (fun k e=>by have:=hown k e;omega))
      have HF13:Hid (Fr [c.R] w w13):=hid (HF11.out.frb hFG (by omega))
      clear k13 m13 hFG
      have hle12:=hq12.out.mu (shr_capture _ _)
      go_wp2_with fail
      go_roundw
      case rel=>exact⟨acc ++ [x12],s12,p',c',(by rw[List.length_append,rowsQ_snoc];exact HL13.out.keep (X:=[w1.heap.size]) frk (by first|(simp;done)|omega|(simp;omega))),HI13.out.f [w1.heap.size] H.out,(HF13.out.jf [w1.heap.size]),(by first|(simp;done)|omega|(simp;omega)),(by rw[List.length_append];exact HD13.out.set 3 _),HB13.out.f [w1.heap.size],by omega,by simp;omega,HJ.out.more (shr_capture _ _) hq11.out hl11 hq12.out⟩
      case measure=>rw[IR.rMu (s:=s12) (HI13.out.f [w1.heap.size] H.out),HI2.out.rMu];omega
    ·clear hp
     have hfk11:=hid hf
     obtain⟨hT,HB11,HI11,HF11,hz11⟩:=IR.st [w1.heap.size] HBR.out HF.out hf hi
     try simp at hz11
     have HD11:=hid (HDR.out.k hf)
     clear hT hf hi
     have HLI:=hid (HJ.out.stop hq11.out)
     have HLN:=hid (HL.out.keep hfk11.out (by simp;omega))
     have HRL:Hid (RowV w11 (fun k=>w.heap.size≤k∧k≠w.heap.size∧k≠w1.heap.size) 155 6 acc.length (rowsQ argQ acc) (.slice pc acc.length cc)):=hid (HLN.out.row.mono (fun k hk hl=>⟨by simp at hk ⊢;omega,rfl⟩))
     go_wp2_with fail
     refine(rneed_q c s' [93] _ (by exact HI11.out.f [w1.heap.size] H.out)).mono ?_
     rintro e w14 ⟨rfl,x14,s14,hq14,hf,hi⟩
     obtain⟨hT,HB14,HI14,HF14,hz14⟩:=IR.st [w1.heap.size] HB11.out HF11.out hf hi
     try simp at hz14
     have HD14:=hid (HD11.out.k hf)
     have HRL_14:=hid (HRL.out.k (N':=(fun k=>w.heap.size≤k∧k≠w.heap.size∧k≠w1.heap.size)) hT)
     have hl14:=hq14.out.mu (Shr.expect _)
     clear hT hf hi
     have hlD:=HD14.out.lt
     go_wp2_with fail
     clear hlD
     refine(rargs_any c s14 _ (by exact HI14.out.f [w1.heap.size] H.out) n (by omega)).mono ?_
     rintro e w15 ⟨v15,x15,s15,rfl,hq15,hf,hi,hv⟩
     obtain⟨p15,n15,k15,rfl⟩:=row_shp hv
     have hV15:=(row_of hv).k (N':=(fun k=>w.heap.size≤k∧k≠w.heap.size∧k≠w1.heap.size)) (Fr.refl [] _)
     obtain⟨hT,HB15,HI15,HF15,hz15⟩:=IR.st [w1.heap.size] HB14.out HF14.out hf hi
     try simp at hz15
     have HD15:=hid (HD14.out.k hf)
     have HRL_15:=hid (HRL_14.out.ks hT)
     have HV15:=hid hV15
     have hl15:=hq15.out.mu (Shr.pos (shr_arg _ _) _ _)
     clear hT hf hi hV15 hv
     have hlD:=HD15.out.lt
     obtain⟨d4,f4⟩:=HD15.out.df 4 (v:=.slice none 0 0) rfl
     go_wp2_with fail
     clear hlD d4 f4
     refine(rneed_q c s15 [45,62] _ (by exact HI15.out.f [w1.heap.size] H.out)).mono ?_
     rintro e w16 ⟨rfl,x16,s16,hq16,hf,hi⟩
     obtain⟨hT,HB16,HI16,HF16,hz16⟩:=IR.st [w1.heap.size] HB15.out HF15.out hf hi
     try simp at hz16
     have HD16:Hid (Blk w16 (w1.heap.size) 42 #[.string ⟨x1.toArray⟩,zN,zN,.slice pc acc.length cc,.slice p15 n15 k15,zS,zN,zI,zN,.int .i64 o]):=hid ((HD15.out.set 4 (.slice p15 n15 k15)).k hf)
     have HRL_16:=hid (HRL_15.out.ks hT)
     have HV15_16:=hid (HV15.out.ks hT)
     have hl16:=hq16.out.mu (Shr.expect _)
     clear hT hf hi
     have hlD:=HD16.out.lt
     go_wp2_with fail
     clear hlD
     refine(rtyped_any c n n s16 _ (by exact HI16.out.f [w1.heap.size] H.out) (by omega) (by omega)).mono ?_
     rintro e w17 ⟨v17,x17,s17,rfl,hq17,hf,hi,hv⟩
     obtain⟨cs,rfl,hrep⟩:=hv
     obtain⟨s17_0,p17_1,n17_1,c17_1,i17_2,rfl⟩:=hrep.c_typeQ
     have hV17:=hrep.k (N':=(fun k=>w.heap.size≤k∧k≠w.heap.size∧k≠w1.heap.size)) (Fr.refl [] _)
     obtain⟨hT,HB17,HI17,HF17,hz17⟩:=IR.st [w1.heap.size] HB16.out HF16.out hf hi
     try simp at hz17
     have HD17:=hid (HD16.out.k hf)
     have HRL_17:=hid (HRL_16.out.ks hT)
     have HV15_17:=hid (HV15_16.out.ks hT)
     have HV17:=hid hV17
     have hl17:=hq17.out.mu (shr_typeF _ _)
     clear hT hf hi hV17 hrep
     have hlD:=HD17.out.lt
     obtain⟨d5,f5⟩:=HD17.out.df 5 (v:=.string ⟨#[]⟩) rfl
     obtain⟨d6,f6⟩:=HD17.out.df 6 (v:=.slice none 0 0) rfl
     obtain⟨d7,f7⟩:=HD17.out.df 7 (v:=.int .i64 0) rfl
     go_wp2_with fail
     clear hlD d5 f5 d6 f6 d7 f7
     refine(rblock_any c s17 _ (by exact HI17.out.f [w1.heap.size] H.out) m S HST.out HSTR.out HSH.out (by omega)).mono ?_
     rintro e w18 ⟨v18,x18,s18,rfl,hq18,hf,hi,hv⟩
     obtain⟨p18,n18,k18,rfl⟩:=row_shp hv
     have hV18:=(row_of hv).k (N':=(fun k=>w.heap.size≤k∧k≠w.heap.size∧k≠w1.heap.size)) (Fr.refl [] _)
     obtain⟨hT,HB18,HI18,HF18,hz18⟩:=IR.st [w1.heap.size] HB17.out HF17.out hf hi
     try simp at hz18
     have HD18:Hid (Blk w18 (w1.heap.size) 42 #[.string ⟨x1.toArray⟩,zN,zN,.slice pc acc.length cc,.slice p15 n15 k15,.string s17_0,.slice p17_1 n17_1 c17_1,.int .i64 i17_2,zN,.int .i64 o]):=hid ((((HD17.out.set 5 (.string s17_0)).set 6 (.slice p17_1 n17_1 c17_1)).set 7 (.int .i64 i17_2)).k hf)
     have HRL_18:=hid (HRL_17.out.ks hT)
     have HV15_18:=hid (HV15_17.out.ks hT)
     have HV17_18:=hid (HV17.out.ks hT)
     have HV18:=hid hV18
     have hl18:=hq18.out.mu (shr_block HSH.out)
     clear hT hf hi hV18 hv
     have hlD:=HD18.out.lt
     obtain⟨d8,f8⟩:=HD18.out.df 8 (v:=.slice none 0 0) rfl
     go_wp2_with (first|(refine wpList_load_row rfl 42 _ rfl (w1.heap.size) rfl 42 #[.string ⟨x1.toArray⟩,.slice none 0 0,.slice none 0 0,.slice pc acc.length cc,.slice p15 n15 k15,.string s17_0,.slice p17_1 n17_1 c17_1,.int .i64 i17_2,.slice p18 n18 k18,.int .i64 o] (0,0) _ (HD18.out.set 8 (.slice p18 n18 k18)) Tryz.underlying42 rfl rfunc_size ?_)|(refine wpList_store_row rfl 42 _ _ rfl (w.heap.size) _ rfl rfl 42 _ (HB18.out.row [w1.heap.size]) rfunc_size rfl (by simp[Value.oneCell']) ?_))
     refine bodyPost_ret (results_cell_row (p:=4) rfl _ _ (w.heap.size) 42 _ (0,0) _ rfl (setRow_heap _ _ _ _ _ _ (HB18.out.row [w1.heap.size])) Tryz.underlying42 rfl rfunc_size) rfl ?_
     clear hlD d8 f8
     exact RD.mk (.mk x1 [] [] acc x15 x17 x18 o) s18 (by unfold refLo;refine Rel.bind hq1.out ?_;refine Rel.bind (Rel.posYes hq2.out hq3.out HLI.out hq14.out) ?_;refine .bind hq15.out<|.bind hq16.out ?_;refine .bind hq17.out<|.bind hq18.out ?_;exact Rel.pure _ _) (HF18.out.jf [w1.heap.size,w.heap.size]) (HI18.out.f [w1.heap.size,w.heap.size] H.out) ⟨_,rfl,(by rw[funcQ_mk];unfold strsQ boundsS argsS stmtsS;exact rep_str.2 ⟨_,rfl,rep_sl.2 ⟨_,_,rfl,RowV.nil _ _ _ _,rep_sl.2 ⟨_,_,rfl,RowV.nil _ _ _ _,rep_sl.2 ⟨_,_,rfl,(HRL_18.out.f [w1.heap.size,w.heap.size]),rep_sl.2 ⟨_,_,rfl,(HV15_18.out.f [w1.heap.size,w.heap.size]),Rep.app (cs:=[.string s17_0,.slice p17_1 n17_1 c17_1,.int .i64 i17_2]) (HV17_18.out.f [w1.heap.size,w.heap.size]) (rep_sl.2 ⟨_,_,rfl,(HV18.out.f [w1.heap.size,w.heap.size]),rep_int.2 ⟨_,rfl,rep_nil.2 rfl⟩⟩)⟩⟩⟩⟩⟩)⟩
set_option maxRecDepth 100000 in
set_option maxHeartbeats 6400000 in
theorem rdata_any (c:RCtx) (n:Nat) (o:Nat) (s:RS) (w:World) (h:IR c s w) (hm:s.mu≤n) :
  Calls Tryz.prog 27 #[.pointer (some ⟨c.R,0,none⟩),.int .i64 o] w (RD c w (okAgg dataQ) (Px.data c.size n o) s):=by
 obtain⟨i0,hi0,iz0,iz1,iz2⟩:=info_parts info_var
 have HINF:=hid hi0
 clear hi0
 have H:=hid h
 have HR0:=H.out.lt.1
 clear h
 go_enter Tryz.func27,Tryz.ntmps27
 go_wp2_with fail
 refine(rname_any c s _ (by exact H.out.f [] H.out)).mono ?_
 rintro e w1 ⟨_,x1,s1,rfl,hq1,hf,hi,rfl⟩
 have hT:Fr [c.R] w w1:=Fr.trans frk hf.wide
 have hz1:=hf.size;try simp at hz1
 have HB1:Hid (Blk w1 (w.heap.size) 45 #[zS,zN,zN,zI,zI]):=hid ((Blk.new w _ _).keep hf (by first|(simp;done)|omega|(simp;omega)))
 have HI1:=hid hi
 have HF1:=hid ((Fr.refl [c.R] w).j hT)
 have hl1:=hq1.out.mu Shr.name
 clear hT hf hi
 go_wp2_with fail
 refine(rparams_any c s1 _ (by exact HI1.out.f [] H.out)).mono ?_
 rintro e w2 ⟨v2,x2,s2,rfl,hq2,hf,hi,hv⟩
 obtain⟨p2,n2,k2,rfl⟩:=row_shp hv
 have hV2:=(row_of hv).k (N':=(fun k=>w.heap.size≤k∧k≠w.heap.size)) (Fr.refl [] _)
 obtain⟨hT,HB2,HI2,HF2,hz2⟩:=IR.st [] HB1.out HF1.out hf hi
 try simp at hz2
 have HV2:=hid hV2
 have hl2:=hq2.out.mu shr_params
 clear hT hf hi hV2 hv
 have hneDB:w2.heap.size≠w.heap.size:=by omega
 have hneBD:=hneDB.symm
 go_wp2_with (refine wpList_store_row rfl 45 _ _ rfl (w2.heap.size) #[.string ⟨x1.toArray⟩,.slice p2 n2 k2,.slice none 0 0,.int .i64 0,.int .i64 o] rfl rfl 45 _ (Blk.new_at (by simp)) rdata_size rfl (by simp[Value.oneCell']) ?_)
 refine(rneed_q c s2 [123] _ (by exact HI2.out.f [w2.heap.size] H.out)).mono ?_
 rintro e w3 ⟨rfl,x3,s3,hq3,hf,hi⟩
 obtain⟨hT,HB3,HI3,HF3,hz3⟩:=IR.st [w2.heap.size] HB2.out HF2.out hf hi
 try simp at hz3
 have HD3:Hid (Blk w3 (w2.heap.size) 45 #[.string ⟨x1.toArray⟩,.slice p2 n2 k2,zN,zI,.int .i64 o]):=hid ((show Blk _ (w2.heap.size) 45 #[.string ⟨x1.toArray⟩,.slice p2 n2 k2,zN,zI,.int .i64 o] from setRow_heap _ _ _ _ _ _ (Blk.new_at (by simp))).k hf)
 have HV2_3:=hid (HV2.out.k (N':=(fun k=>w.heap.size≤k∧k≠w.heap.size∧k<w2.heap.size)) hT)
 have hl3:=hq3.out.mu (Shr.expect _)
 clear hT hf hi
 have hlD:=HD3.out.lt
 go_wp2_with fail
 clear hlD
 refine(rvariant_any c s3 _ (by exact HI3.out.f [w2.heap.size] H.out) n (by omega)).mono ?_
 rintro e w4 ⟨v4,x4,s4,rfl,hq4,hf,hi,hv⟩
 obtain⟨cs,rfl,hrep⟩:=hv
 obtain⟨s4_0,p4_1,n4_1,c4_1,i4_2,rfl⟩:=hrep.c_varQ
 have hV4:=hrep.k (N':=(fun k=>w.heap.size≤k∧k≠w.heap.size∧k≠w2.heap.size)) (Fr.refl [] _)
 have HV4B:=hid (repk (N':=fun k=>w3.heap.size≤k) hrep (Fr.refl [] _) (fun k hk hl=>by simp at hk hl ⊢;omega))
 obtain⟨hT,HB4,HI4,HF4,hz4⟩:=IR.st [w2.heap.size] HB3.out HF3.out hf hi
 try simp at hz4
 have HD4:=hid (HD3.out.k hf)
 have HV2_4:=hid (HV2_3.out.ks hT)
 have HV4:=hid hV4
 have hl4:=hq4.out.mu (shr_variant _ _)
 clear hT hf hi hV4 hrep
 have hlD:=HD4.out.lt
 obtain⟨d2,f2⟩:=HD4.out.df 2 (v:=.slice none 0 0) rfl
 go_wp2_with fail
 clear hlD d2 f2
 obtain⟨wz,hwz⟩:∃ wz,wz=(w4.setCell ⟨w2.heap.size,2,none⟩ (.slice (some ⟨w4.heap.size,0,none⟩) 1 1)).alloc (.cells #[.string s4_0,.slice p4_1 n4_1 c4_1,.int .i64 i4_2] 47):=⟨_,rfl⟩
 have hfz:Fr [c.R,w2.heap.size] w4 wz:=by rw[hwz];exact frk
 have HIz:Hid (IR c s4 wz):=hid (by rw[hwz];exact HI4.out.f [w2.heap.size] H.out)
 have HFz:=hid (HF4.out.j hfz)
 have HDz:Hid (Blk wz (w2.heap.size) 45 #[.string ⟨x1.toArray⟩,.slice p2 n2 k2,.slice (some ⟨w4.heap.size,0,none⟩) 1 1,zI,.int .i64 o]):=hid (by rw[hwz];exact(HD4.out.set 2 _).alloc _)
 have HBz:Hid (Blk wz (w.heap.size) 45 #[zS,zN,zN,zI,zI]):=hid (HB4.out.keep hfz (by first|(simp;done)|omega|(simp;omega)))
 have HLz:Hid (ListAt wz (w2.heap.size+1) 47 3 [x4].length (rowsQ varQ [x4]) (.slice (some ⟨w4.heap.size,0,none⟩) 1 1)):=hid (by rw[rowsQ_one];exact ListAt.one (xs:=[.string s4_0,.slice p4_1 n4_1 c4_1,.int .i64 i4_2]) (by omega) (by rw[hwz];exact(Blk.new_at (by simp))) rfl (repk (N':=fun k=>w2.heap.size+1≤k∧k≠w4.heap.size) HV4B.out hfz (fun k hk hl=>by simp at hk hl ⊢;omega)))
 have HV2z:=hid (HV2_4.out.k (N':=(fun k=>w.heap.size≤k∧k≠w.heap.size∧k<w2.heap.size)) hfz)
 have hzz:w4.heap.size+1≤wz.heap.size:=by rw[hwz];simp
 rw[← hwz]
 clear hwz hfz
 go_loopw [] (fun wr=>∃ (acc:List VarD) (s':RS) (pc:Option Addr) (cc:Nat),ListAt wr (w2.heap.size+1) 47 3 acc.length (rowsQ varQ acc) (.slice pc acc.length cc)∧IR c s' wr∧Fr [c.R] w wr∧wz.heap.size≤wr.heap.size∧Blk wr (w2.heap.size) 45 #[.string ⟨x1.toArray⟩,.slice p2 n2 k2,.slice pc acc.length cc,zI,.int .i64 o]∧Blk wr (w.heap.size) 45 #[zS,zN,zN,zI,zI]∧s'.mu≤s3.mu∧acc.length+s'.mu≤6002∧LJ c.size (Px.variant c.size n) s3 acc s'∧RowV wr (fun k=>w.heap.size≤k∧k≠w.heap.size∧k<w2.heap.size) 9 1 x2.length (rowsQ strQ x2) (.slice p2 n2 k2)) (fun wr=>rMu c wr)
 case atStart=>exact⟨[x4],s4,_,_,HLz.out,HIz.out,HFz.out,Nat.le_refl _,HDz.out,HBz.out,(by first|(simp;done)|omega|(simp;omega)),by (try simp);have:=HIz.out.mu_le;omega,LJ.start (shr_variant _ _) hq4.out,HV2z.out⟩
 case round =>
  obtain⟨acc,s',pc,cc,hL,hi,hf,hzz,hD,hB,hle,hn,hJ,hV_0⟩:=hrel
  have HL:=hid hL
  have HI2:=hid hi
  have HF:=hid hf
  have HDR:=hid hD
  have HBR:=hid hB
  have HJ:=hid hJ
  have HVR_0:=hid hV_0
  clear hL hi hf hD hB hJ hV_0
  go_wp2_with fail
  refine(rnext_any c s' [44] _ (by exact HI2.out.f [w2.heap.size] H.out) (by decide) (by decide)).mono ?_
  rintro e w5 hp
  rcases hp.next with ⟨s5,hq5,hl5,rfl,hf,hi⟩|⟨hq5,rfl,hf,hi⟩
  ·clear hp
   have hfk5:=hid hf
   obtain⟨hT,HB5,HI5,HF5,hz5⟩:=IR.st [w2.heap.size] HBR.out HF.out hf hi
   try simp at hz5
   have HD5:=hid (HDR.out.k hf)
   have HV2_5:=hid (HVR_0.out.ks hT)
   clear hT hf hi
   go_wp2_with fail
   have HLY:=hid (HL.out.keep hfk5.out (by simp;omega))
   have hlD:=HD5.out.lt
   obtain⟨d2,f2⟩:=HD5.out.df 2 (v:=.slice pc acc.length cc) rfl
   have hbw:(w2.heap.size+1)≤w5.heap.size:=by omega
   have hRb:c.R<(w2.heap.size+1):=by omega
   go_region_law (first|(refine step_append_list _ (by rfl) _ _ 43 (by rfl) ((w2.heap.size+1)) 47 i0 _ 3 48 Tryz.underlying43 HINF.out iz0 iz1 iz2 rfl (by decide) (.slice pc acc.length cc) (acc.length) 1 (rowsQ varQ acc) (varQ x6) (by rfl) G1.out ⟨w6.heap.size,0,none⟩ 1 [.string s6_0,.slice p6_1 n6_1 c6_1,.int .i64 i6_2] (by rfl) (by decide) rfl G2.out G3.out (by omega) (by decide) g4 ?_;intro p' c' w7 hL7 hg7;have hown:∀ k,(.slice pc acc.length cc:Value).ownBlock=some k→(w2.heap.size+1)≤k:=(fun k e=>(HLY.out.own k e).1);have HD7:=hid ((HD6.out.alloc _).grown hg7 (fun k e=>by have:=hown k e;omega));obtain⟨k7,m7⟩:=HD7.out.df 2 (v:=.slice pc acc.length cc) rfl;have HL7:=hid hL7;have HG7:=hid hg7;clear hL7 hg7)|(go_simp;go_at_call 64;refine(rvariant_any c s5 _ (by exact(HI5.out.f [] H.out)) n (by omega)).mono ?_;rintro e w6 hp;obtain⟨v6,x6,s6,rfl,hq6,hf6,hi6,hv6⟩:=hp;have hx6:Fr [c.R] w5 w6:=Fr.trans frk hf6;obtain⟨cs,rfl,hrep0⟩:=hv6;have hrep:Rep w6 (fun k=>w5.heap.size≤k) (varQ x6) cs:=hrep0;obtain⟨s6_0,p6_1,n6_1,c6_1,i6_2,rfl⟩:=hrep.c_varQ;have HD6:=hid (HD5.out.k hx6);have k6:=HD6.out.at 2 (v:=.slice pc acc.length cc) rfl;have hlx6:=HD6.out.lt;obtain⟨g1,g2,g3,g4⟩:=append_ready (news:=[.string s6_0,.slice p6_1 n6_1 c6_1,.int .i64 i6_2]) HLY.out (Nat.le_refl _) hx6 hRb hbw hrep 47;have G1:=hid g1;have G2:=hid g2;have G3:=hid g3;have HX6:=hid hx6;have HI6c:=hid hi6;have hh6:w5.heap.size≤w6.heap.size:=hx6.size;clear g1 g2 g3 hrep hx6 hi6 hf6))
   all_goals
    have hFG:FrB [c.R] ((w2.heap.size+1)) w5 w7:=frb_grown (HX6.out.alloc (.cells #[.string s6_0,.slice p6_1 n6_1 c6_1,.int .i64 i6_2] 47)) HG7.out hown
    have hz7:w5.heap.size≤w7.heap.size:=hFG.size
    have HI7:Hid (IR c s6 w7):=hid ((HI6c.out.alloc _).grown H.out HG7.out (fun k e=>by have:=hown k e;omega))
    have HB7:=hid (((HB5.out.k HX6.out).alloc _).grown HG7.out (fun k e=>by have:=hown k e;omega))
    have HF7:Hid (Fr [c.R] w w7):=hid (HF5.out.frb hFG (by omega))
    have HV2_7:=hid (rowb (N':=(fun k=>w.heap.size≤k∧k≠w.heap.size∧k<w2.heap.size)) (by exact HV2_5.out) hFG (fun k hk hl=>by simp at hk hl ⊢;omega))
    clear k7 m7 hFG
    have hle6:=hq6.out.mu (shr_variant _ _)
    go_wp2_with fail
    go_roundw
    case rel=>exact⟨acc ++ [x6],s6,p',c',(by rw[List.length_append,rowsQ_snoc];exact HL7.out.keep (X:=[w2.heap.size]) frk (by first|(simp;done)|omega|(simp;omega))),HI7.out.f [w2.heap.size] H.out,(HF7.out.jf [w2.heap.size]),(by first|(simp;done)|omega|(simp;omega)),(by rw[List.length_append];exact HD7.out.set 2 _),HB7.out.f [w2.heap.size],by omega,by simp;omega,HJ.out.more (shr_variant _ _) hq5.out hl5 hq6.out,(HV2_7.out.f [w2.heap.size])⟩
    case measure=>rw[IR.rMu (s:=s6) (HI7.out.f [w2.heap.size] H.out),HI2.out.rMu];omega
  ·clear hp
   have hfk5:=hid hf
   obtain⟨hT,HB5,HI5,HF5,hz5⟩:=IR.st [w2.heap.size] HBR.out HF.out hf hi
   try simp at hz5
   have HD5:=hid (HDR.out.k hf)
   have HV2_5:=hid (HVR_0.out.ks hT)
   clear hT hf hi
   have HLI:=hid (HJ.out.stop hq5.out)
   have HLN:=hid (HL.out.keep hfk5.out (by simp;omega))
   have HRL:Hid (RowV w5 (fun k=>w.heap.size≤k∧k≠w.heap.size∧k≠w2.heap.size) 47 3 acc.length (rowsQ varQ acc) (.slice pc acc.length cc)):=hid (HLN.out.row.mono (fun k hk hl=>⟨by simp at hk ⊢;omega,rfl⟩))
   go_wp2_with fail
   refine(rneed_q c s' [125] _ (by exact HI5.out.f [w2.heap.size] H.out)).mono ?_
   rintro e w8 ⟨rfl,x8,s8,hq8,hf,hi⟩
   obtain⟨hT,HB8,HI8,HF8,hz8⟩:=IR.st [w2.heap.size] HB5.out HF5.out hf hi
   try simp at hz8
   have HD8:=hid (HD5.out.k hf)
   have HV2_8:=hid (HV2_5.out.ks hT)
   have HRL_8:=hid (HRL.out.k (N':=(fun k=>w.heap.size≤k∧k≠w.heap.size∧k≠w2.heap.size)) hT)
   have hl8:=hq8.out.mu (Shr.expect _)
   clear hT hf hi
   have hlD:=HD8.out.lt
   go_wp2_with fail
   clear hlD
   refine(rnext_q c s8 [100,114,111,112] _ (by exact HI8.out.f [w2.heap.size] H.out)).mono ?_
   rintro e w9 (⟨s9,hq9,hl9,rfl,hf,hi⟩|⟨hq9,rfl,hf,hi⟩)
   ·skip
    obtain⟨hT,HB9,HI9,HF9,hz9⟩:=IR.st [w2.heap.size] HB8.out HF8.out hf hi
    try simp at hz9
    have HD9:=hid (HD8.out.k hf)
    have HV2_9:=hid (HV2_8.out.ks hT)
    have HRL_9:=hid (HRL_8.out.ks hT)
    clear hT hf hi
    have hlD:=HD9.out.lt
    go_wp2_with fail
    clear hlD
    refine(rnext_q c s9 [112,97,110,105,99] _ (by exact HI9.out.f [w2.heap.size] H.out)).mono ?_
    rintro e w10 (⟨s10,hq10,hl10,rfl,hf,hi⟩|⟨hq10,rfl,hf,hi⟩)
    ·skip
     obtain⟨hT,HB10,HI10,HF10,hz10⟩:=IR.st [w2.heap.size] HB9.out HF9.out hf hi
     try simp at hz10
     have HD10:=hid (HD9.out.k hf)
     have HV2_10:=hid (HV2_9.out.ks hT)
     have HRL_10:=hid (HRL_9.out.ks hT)
     clear hT hf hi
     have hlD:=HD10.out.lt
     obtain⟨d3,f3⟩:=HD10.out.df 3 (v:=.int .i64 0) rfl
     go_wp2_with fail
     clear hlD d3 f3
     refine(rneed_q c s10 [59] _ (by exact HI10.out.f [w2.heap.size] H.out)).mono ?_
     rintro e w11 ⟨rfl,x11,s11,hq11,hf,hi⟩
     obtain⟨hT,HB11,HI11,HF11,hz11⟩:=IR.st [w2.heap.size] HB10.out HF10.out hf hi
     try simp at hz11
     have HD11:Hid (Blk w11 (w2.heap.size) 45 #[.string ⟨x1.toArray⟩,.slice p2 n2 k2,.slice pc acc.length cc,.int .i64 (-1),.int .i64 o]):=hid ((HD10.out.set 3 (.int .i64 (-1))).k hf)
     have HV2_11:=hid (HV2_10.out.ks hT)
     have HRL_11:=hid (HRL_10.out.ks hT)
     have hl11:=hq11.out.mu (Shr.expect _)
     clear hT hf hi
     have hlD:=HD11.out.lt
     go_wp2_with (first|(refine wpList_load_row rfl 45 _ rfl (w2.heap.size) rfl 45 _ (0,0) _ HD11.out Tryz.underlying45 rfl rdata_size ?_)|(refine wpList_store_row rfl 45 _ _ rfl (w.heap.size) _ rfl rfl 45 _ (HB11.out.row [w2.heap.size]) rdata_size rfl (by simp[Value.oneCell']) ?_))
     refine bodyPost_ret (results_cell_row (p:=4) rfl _ _ (w.heap.size) 45 _ (0,0) _ rfl (setRow_heap _ _ _ _ _ _ (HB11.out.row [w2.heap.size])) Tryz.underlying45 rfl rdata_size) rfl ?_
     clear hlD
     exact RD.mk (⟨x1,x2,acc,-1,o⟩) s11 (by unfold Px.data;refine .bind hq1.out<|.bind hq2.out ?_;refine .bind hq3.out<|.bind HLI.out ?_;refine .bind hq8.out<|.by hq9.out ?_;refine Rel.bind (p:=Px.dropAction) (a:=-1) ?_ (Rel.bind hq11.out (Rel.pure _ _));unfold Px.dropAction;refine Rel.by hq10.out ?_;exact Rel.pure _ _) (HF11.out.jf [w2.heap.size,w.heap.size]) (HI11.out.f [w2.heap.size,w.heap.size] H.out) ⟨_,rfl,(by unfold dataQ strsQ;exact rep_str.2 ⟨_,rfl,rep_sl.2 ⟨_,_,rfl,(HV2_11.out.f [w2.heap.size,w.heap.size]),rep_sl.2 ⟨_,_,rfl,(HRL_11.out.f [w2.heap.size,w.heap.size]),rep_int.2 ⟨_,rfl,rep_int.2 ⟨_,rfl,rep_nil.2 rfl⟩⟩⟩⟩⟩)⟩
    ·skip
     obtain⟨hT,HB10,HI10,HF10,hz10⟩:=IR.st [w2.heap.size] HB9.out HF9.out hf hi
     try simp at hz10
     have HD10:=hid (HD9.out.k hf)
     have HV2_10:=hid (HV2_9.out.ks hT)
     have HRL_10:=hid (HRL_9.out.ks hT)
     clear hT hf hi
     have hlD:=HD10.out.lt
     go_wp2_with fail
     clear hlD
     refine(rnumber_any c s9 _ (by exact HI10.out.f [w2.heap.size] H.out)).mono ?_
     rintro e w12 ⟨_,x12,s12,rfl,hq12,hf,hi,rfl⟩
     obtain⟨hT,HB12,HI12,HF12,hz12⟩:=IR.st [w2.heap.size] HB10.out HF10.out hf hi
     try simp at hz12
     have HD12:=hid (HD10.out.k hf)
     have HV2_12:=hid (HV2_10.out.ks hT)
     have HRL_12:=hid (HRL_10.out.ks hT)
     have hl12:=hq12.out.mu Shr.number
     clear hT hf hi
     have hlD:=HD12.out.lt
     obtain⟨d3,f3⟩:=HD12.out.df 3 (v:=.int .i64 0) rfl
     go_wp2_with fail
     clear hlD d3 f3
     refine(rneed_q c s12 [59] _ (by exact HI12.out.f [w2.heap.size] H.out)).mono ?_
     rintro e w13 ⟨rfl,x13,s13,hq13,hf,hi⟩
     obtain⟨hT,HB13,HI13,HF13,hz13⟩:=IR.st [w2.heap.size] HB12.out HF12.out hf hi
     try simp at hz13
     have HD13:Hid (Blk w13 (w2.heap.size) 45 #[.string ⟨x1.toArray⟩,.slice p2 n2 k2,.slice pc acc.length cc,.int .i64 x12,.int .i64 o]):=hid ((HD12.out.set 3 (.int .i64 x12)).k hf)
     have HV2_13:=hid (HV2_12.out.ks hT)
     have HRL_13:=hid (HRL_12.out.ks hT)
     have hl13:=hq13.out.mu (Shr.expect _)
     clear hT hf hi
     have hlD:=HD13.out.lt
     go_wp2_with (first|(refine wpList_load_row rfl 45 _ rfl (w2.heap.size) rfl 45 _ (0,0) _ HD13.out Tryz.underlying45 rfl rdata_size ?_)|(refine wpList_store_row rfl 45 _ _ rfl (w.heap.size) _ rfl rfl 45 _ (HB13.out.row [w2.heap.size]) rdata_size rfl (by simp[Value.oneCell']) ?_))
     refine bodyPost_ret (results_cell_row (p:=4) rfl _ _ (w.heap.size) 45 _ (0,0) _ rfl (setRow_heap _ _ _ _ _ _ (HB13.out.row [w2.heap.size])) Tryz.underlying45 rfl rdata_size) rfl ?_
     clear hlD
     exact RD.mk (⟨x1,x2,acc,(x12:Int),o⟩) s13 (by unfold Px.data;refine .bind hq1.out<|.bind hq2.out ?_;refine .bind hq3.out<|.bind HLI.out ?_;refine .bind hq8.out<|.by hq9.out ?_;refine Rel.bind (p:=Px.dropAction) (a:=(x12:Int)) ?_ (Rel.bind hq13.out (Rel.pure _ _));unfold Px.dropAction;refine Rel.bn hq10.out ?_;exact Rel.bind hq12.out (Rel.pure _ _)) (HF13.out.jf [w2.heap.size,w.heap.size]) (HI13.out.f [w2.heap.size,w.heap.size] H.out) ⟨_,rfl,(by unfold dataQ strsQ;exact rep_str.2 ⟨_,rfl,rep_sl.2 ⟨_,_,rfl,(HV2_13.out.f [w2.heap.size,w.heap.size]),rep_sl.2 ⟨_,_,rfl,(HRL_13.out.f [w2.heap.size,w.heap.size]),rep_int.2 ⟨_,rfl,rep_int.2 ⟨_,rfl,rep_nil.2 rfl⟩⟩⟩⟩⟩)⟩
   ·skip
    obtain⟨hT,HB9,HI9,HF9,hz9⟩:=IR.st [w2.heap.size] HB8.out HF8.out hf hi
    try simp at hz9
    have HD9:=hid (HD8.out.k hf)
    have HV2_9:=hid (HV2_8.out.ks hT)
    have HRL_9:=hid (HRL_8.out.ks hT)
    clear hT hf hi
    have hlD:=HD9.out.lt
    go_wp2_with fail
    clear hlD
    refine(rneed_q c s8 [59] _ (by exact HI9.out.f [w2.heap.size] H.out)).mono ?_
    rintro e w14 ⟨rfl,x14,s14,hq14,hf,hi⟩
    obtain⟨hT,HB14,HI14,HF14,hz14⟩:=IR.st [w2.heap.size] HB9.out HF9.out hf hi
    try simp at hz14
    have HD14:=hid (HD9.out.k hf)
    have HV2_14:=hid (HV2_9.out.ks hT)
    have HRL_14:=hid (HRL_9.out.ks hT)
    have hl14:=hq14.out.mu (Shr.expect _)
    clear hT hf hi
    have hlD:=HD14.out.lt
    go_wp2_with (first|(refine wpList_load_row rfl 45 _ rfl (w2.heap.size) rfl 45 _ (0,0) _ HD14.out Tryz.underlying45 rfl rdata_size ?_)|(refine wpList_store_row rfl 45 _ _ rfl (w.heap.size) _ rfl rfl 45 _ (HB14.out.row [w2.heap.size]) rdata_size rfl (by simp[Value.oneCell']) ?_))
    refine bodyPost_ret (results_cell_row (p:=4) rfl _ _ (w.heap.size) 45 _ (0,0) _ rfl (setRow_heap _ _ _ _ _ _ (HB14.out.row [w2.heap.size])) Tryz.underlying45 rfl rdata_size) rfl ?_
    clear hlD
    exact RD.mk (⟨x1,x2,acc,0,o⟩) s14 (by unfold Px.data;refine .bind hq1.out<|.bind hq2.out ?_;refine .bind hq3.out<|.bind HLI.out ?_;refine .bind hq8.out<|.bn hq9.out ?_;exact Rel.bind hq14.out (Rel.pure _ _)) (HF14.out.jf [w2.heap.size,w.heap.size]) (HI14.out.f [w2.heap.size,w.heap.size] H.out) ⟨_,rfl,(by unfold dataQ strsQ;exact rep_str.2 ⟨_,rfl,rep_sl.2 ⟨_,_,rfl,(HV2_14.out.f [w2.heap.size,w.heap.size]),rep_sl.2 ⟨_,_,rfl,(HRL_14.out.f [w2.heap.size,w.heap.size]),rep_int.2 ⟨_,rfl,rep_int.2 ⟨_,rfl,rep_nil.2 rfl⟩⟩⟩⟩⟩)⟩
end Go.Proofs.YtghohohagbbajaaGreatDoor
