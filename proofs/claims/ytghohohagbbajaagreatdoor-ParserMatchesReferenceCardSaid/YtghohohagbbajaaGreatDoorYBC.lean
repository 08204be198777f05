/- part of the proof -/
import Derived.Test.YtghohohagbbajaaGreatDoorYO
import Derived.Test.YtghohohagbbajaaGreatDoorYBB
import Derived.Defers
import Derived.Recover
set_option linter.unusedVariables false
set_option linter.unusedSimpArgs false
set_option linter.unusedSectionVars false
namespace Go.Proofs.YtghohohagbbajaaGreatDoor
open Go.RowKit Go.Lib
open Lx (Tk)
open Px (Txt TyE VarD DataD TraitD BoundD ImplD ArgD ExprD StmtD ArmD FuncD ModD)
theorem shr_data (sz n o:Nat):Shr (Px.data sz n o):=by
 unfold Px.data
 repeat' (first|exact Shr.pure _|exact Shr.name|exact shr_params|exact Shr.expect _|exact Shr.accept _|exact Shr.list (shr_variant sz n)|exact shr_dropAction|apply Shr.bind|apply Shr.ite|intro _)
theorem shr_trait (o:Nat):Shr (Px.trait o):=by
 unfold Px.trait
 repeat' (first|exact Shr.pure _|exact Shr.name|exact Shr.expect _|apply Shr.bind|intro _)
theorem shr_impl (sz n o:Nat):Shr (Px.implementation sz n o):=by
 unfold Px.implementation
 repeat' (first|exact Shr.pure _|exact Shr.name|exact shr_params|exact Shr.expect _|exact shr_typeF sz n|exact shr_bounds sz|apply Shr.bind|intro _)
theorem shr_function (sz n o:Nat):Shr (Px.function sz n o):=by
 unfold Px.function
 repeat' (first|exact Shr.pure _|exact Shr.name|exact shr_params|exact shr_signature sz n|exact shr_bounds sz|exact shr_block (shr_stmtF sz n n)|apply Shr.bind|intro _)
theorem usesF_no {k:Nat} {acc:List Txt} {ts r:List Tk} (h:Px.accept [[117,115,101]] ts=.ok false r):Px.usesF (k+1) acc ts=.ok acc r:=by
 simp only[Px.usesF,bind,Px.Rd.bind,h,Bool.false_eq_true,if_false];rfl
theorem usesF_bad {k:Nat} {acc:List Txt} {ts r r':List Tk} (h:Px.accept [[117,115,101]] ts=.ok true r) (h':Px.name r=.bad r'):Px.usesF (k+1) acc ts=.bad r':=by
 simp only[Px.usesF,bind,Px.Rd.bind,h,if_true,h']
theorem usesF_bad2 {k:Nat} {acc:List Txt} {ts r r' r2:List Tk} {x:Txt} (h:Px.accept [[117,115,101]] ts=.ok true r) (h':Px.name r=.ok x r') (h2:Px.expect [[59]] r'=.bad r2):Px.usesF (k+1) acc ts=.bad r2:=by
 simp only[Px.usesF,bind,Px.Rd.bind,h,if_true,h',h2]
theorem usesF_ok {k:Nat} {acc:List Txt} {ts r r' r2:List Tk} {x y:Txt} (h:Px.accept [[117,115,101]] ts=.ok true r) (h':Px.name r=.ok x r') (h2:Px.expect [[59]] r'=.ok y r2):Px.usesF (k+1) acc ts=Px.usesF k (acc ++ [x]) r2:=by
 simp only[Px.usesF,bind,Px.Rd.bind,h,if_true,h',h2]
theorem itemsF_no {sz n k:Nat} {M:ModD} : Px.itemsF sz n (k+1) M []=.ok M []:=by
 simp only[Px.itemsF,bind,Px.Rd.bind,Px.doneR,List.isEmpty_nil,if_true];rfl
theorem itemsF_bad {sz n k:Nat} {M:ModD} {t:Tk} {ts r:List Tk} (h:Px.item sz n M (t :: ts)=.bad r):Px.itemsF sz n (k+1) M (t :: ts)=.bad r:=by
 simp only[Px.itemsF,bind,Px.Rd.bind,Px.doneR,List.isEmpty_cons,Bool.false_eq_true,if_false,h]
theorem itemsF_ok {sz n k:Nat} {M M':ModD} {t:Tk} {ts r:List Tk} (h:Px.item sz n M (t :: ts)=.ok M' r):Px.itemsF sz n (k+1) M (t :: ts)=Px.itemsF sz n k M' r:=by
 simp only[Px.itemsF,bind,Px.Rd.bind,Px.doneR,List.isEmpty_cons,Bool.false_eq_true,if_false,h]
theorem RPM.cases {c:Ctx} {b:Nat} {w0 w':World} {r:Px.Res ModD} {e:Ending} (h:RPM c b w0 r e w') :
  (∃ M ts vu vd vt vi vf,Hid (r=.ok M ts)∧Fr [c.R,b] w0 w'∧Inv c ts w'∧e=.returned (.tuple #[])∧Blk w' b 29 #[.string ⟨M.name.toArray⟩,vu,vd,vt,vi,vf]∧ModAt w' w0.heap.size M vu vd vt vi vf) ∨
  (∃ ts,Hid (r=.bad ts)∧Fr [c.R,b] w0 w'∧Inv c ts w'∧e=.panicked [failE c ts]):=by
 obtain⟨h1,h2⟩:=h
 cases r with
 | ok a ts=>obtain⟨h3,h4,vu,vd,vt,vi,vf,h5,h6⟩:=h2;exact .inl ⟨a,ts,vu,vd,vt,vi,vf,hid rfl,h1,h3,h4,h5,h6⟩
 | bad ts=>exact .inr ⟨ts,hid rfl,h1,h2.1,h2.2⟩
theorem item_sizes {sz n:Nat} {M M':ModD} {ts r:List Tk} (h:Px.item sz n M ts=.ok M' r) :
  M'.datas.length+M'.traits.length+M'.impls.length+M'.funcs.length=M.datas.length+M.traits.length+M.impls.length+M.funcs.length+1∧r.length<ts.length:=by
 have key:∀ {α:Type} (p:Px.Rd α) (f:α→ModD) (ts1:List Tk),Shr p→(∀ a,(f a).datas.length+(f a).traits.length+(f a).impls.length+(f a).funcs.length=M.datas.length+M.traits.length+M.impls.length+M.funcs.length+1)→ts1.length<ts.length →
   (Px.Rd.bind p (fun a=>(Pure.pure (f a):Px.Rd ModD))) ts1=.ok M' r→M'.datas.length+M'.traits.length+M'.impls.length+M'.funcs.length=M.datas.length+M.traits.length+M.impls.length+M.funcs.length+1∧r.length<ts.length:=by
  intro α p f ts1 hs hf hl he
  unfold Px.Rd.bind at he
  cases hp:p ts1 with
  | ok a r1 =>
   rw[hp] at he
   simp only at he
   change Px.Res.ok (f a) r1=.ok M' r at he
   cases he
   have:=hs.ok hp
   exact⟨hf a,by omega⟩
  | bad r1=>rw[hp] at he;cases he
 unfold Px.item at h
 simp only[bind] at h
 rw[Px.Rd.bind] at h
 obtain⟨o,ho⟩:∃ o,Px.offsetR sz ts=.ok o ts:=by cases ts <;> exact⟨_,rfl⟩
 rw[ho] at h
 simp only at h
 rw[Px.Rd.bind] at h
 cases he:Px.expect [[100,97,116,97],[116,114,97,105,116],[105,109,112,108],[102,110]] ts with
 | bad r1=>rw[he] at h;cases h
 | ok x ts1 =>
  rw[he] at h
  simp only at h
  have hl:=expect_len he rfl
  split at h
  ·exact key _ _ ts1 (shr_data _ _ _) (fun a=>by simp;omega) hl h
  ·split at h
   ·exact key _ _ ts1 (shr_trait _) (fun a=>by simp;omega) hl h
   ·split at h
    ·exact key _ _ ts1 (shr_impl _ _ _) (fun a=>by simp;omega) hl h
    ·exact key _ _ ts1 (shr_function _ _ _) (fun a=>by simp;omega) hl h
theorem mod_size:(Tryz.prog.info? 29).map (·.size)=some 6:=by kernel_rfl
def UsesRel (c:Ctx) (w w0:World) (n:Nat) (x:Txt) (ts4:List Tk) (wr:World):Prop :=
 ∃ (us:List Txt) (ts':List Tk) (k:Nat) (v:Value),Inv c ts' wr∧Fr [c.R,w.heap.size+1] w0 wr∧Blk wr w.heap.size 29 #[.string ⟨#[]⟩,.slice none 0 0,.slice none 0 0,.slice none 0 0,.slice none 0 0,.slice none 0 0]∧Blk wr (w.heap.size+1) 29 #[.string ⟨x.toArray⟩,v,.slice none 0 0,.slice none 0 0,.slice none 0 0,.slice none 0 0] ∧
  ListAt wr w0.heap.size 9 1 us.length (rowsQ strQ us) v∧ts'.length<k∧us.length+ts'.length≤6000∧ts'.length≤ts4.length∧Px.usesF n [] ts4=Px.usesF k us ts'
def ItemsRel (c:Ctx) (w w0:World) (n:Nat) (M0:ModD) (ts5:List Tk) (wr:World):Prop :=
 ∃ (M:ModD) (ts':List Tk) (k:Nat) (vu vd vt vi vf:Value),Inv c ts' wr∧Fr [c.R,w.heap.size+1] w0 wr∧Blk wr w.heap.size 29 #[.string ⟨#[]⟩,.slice none 0 0,.slice none 0 0,.slice none 0 0,.slice none 0 0,.slice none 0 0]∧Blk wr (w.heap.size+1) 29 #[.string ⟨M.name.toArray⟩,vu,vd,vt,vi,vf] ∧
  ModAt wr w0.heap.size M vu vd vt vi vf∧ts'.length<k∧M.datas.length+M.traits.length+M.impls.length+M.funcs.length+ts'.length≤6000∧ts'.length≤ts5.length∧Px.itemsF c.size n n M0 ts5=Px.itemsF c.size n k M ts'
theorem mod_rep {w:World} {B b:Nat} {M:ModD} {vu vd vt vi vf:Value} (h:ModAt w B M vu vd vt vi vf) (hb:b≤B):Rep w (fun k=>b≤k) (modQ M) [.string ⟨M.name.toArray⟩,vu,vd,vt,vi,vf]:=by
 have key:∀ {E s n:Nat} {q:Q} {v:Value},ListAt w B E s n q v→RowV w (fun k=>b≤k) E s n q v:=fun h=>h.row.mono (fun k hk _=>⟨by omega,rfl⟩)
 exact rep_str.2 ⟨_,rfl,rep_sl.2 ⟨_,_,rfl,key h.u,rep_sl.2 ⟨_,_,rfl,key h.d,rep_sl.2 ⟨_,_,rfl,key h.t,rep_sl.2 ⟨_,_,rfl,key h.i,rep_sl.2 ⟨_,_,rfl,key h.f,rep_nil.2 rfl⟩⟩⟩⟩⟩⟩
set_option maxRecDepth 100000 in
set_option maxHeartbeats 3200000 in
theorem module_any (c:Ctx) (ts:List Tk) (w:World) (h:Inv c ts w) (n:Nat) (hm:ts.length<n) :
  Calls Tryz.prog 20 #[.pointer (some ⟨c.R,0,none⟩)] w (RP c w (okAgg modQ) (Px.module c.size n ts)):=by
 obtain⟨i0,hi,iz0,iz1,iz2⟩:=info_parts info_str
 have HINF:=hid hi
 have H:=hid h
 have HR0:=H.out.lt.1
 have hfew:=H.out.few
 clear h hi
 go_enter Tryz.func20,Tryz.ntmps20
 go_wp2_with fail
 obtain⟨w0,hw0⟩:∃ w0,w0=(w.alloc (.cells #[.string ⟨#[]⟩,.slice none 0 0,.slice none 0 0,.slice none 0 0,.slice none 0 0,.slice none 0 0] 29)).alloc (.cells #[.string ⟨#[]⟩,.slice none 0 0,.slice none 0 0,.slice none 0 0,.slice none 0 0,.slice none 0 0] 29):=⟨_,rfl⟩
 have HI0:Hid (Inv c ts w0):=hid (by rw[hw0];exact(H.out.alloc _).alloc _)
 have HF0:Hid (Fr [c.R] w w0):=hid (by rw[hw0];exact((Fr.refl _ _).alloc _).alloc _)
 have HB0:Hid (Blk w0 w.heap.size 29 #[.string ⟨#[]⟩,.slice none 0 0,.slice none 0 0,.slice none 0 0,.slice none 0 0,.slice none 0 0]):=hid (by rw[hw0];exact(Blk.new _ _ _).alloc _)
 have HD0:Hid (Blk w0 (w.heap.size+1) 29 #[.string ⟨#[]⟩,.slice none 0 0,.slice none 0 0,.slice none 0 0,.slice none 0 0,.slice none 0 0]):=hid (by rw[hw0];exact Blk.new_at (by simp))
 have hz0:w0.heap.size=w.heap.size+2:=by rw[hw0];simp
 have hz0a:w0.heap.size≤w.heap.size+2:=by omega
 have HZ0:Hid (w0.heap.size=w.heap.size+1+1):=hid hz0
 have hz0b:w.heap.size+2≤w0.heap.size:=by omega
 have HAP:Hid (c.Apart (w.heap.size+1)):=hid (H.out.apart (by simp))
 rw[← hw0]
 clear hw0 hz0
 refine(expect_any c ts [[109,111,100,117,108,101]] _ _ 1 (HI0.out.alloc _) rfl (by exact Blk.new_at HZ0.out) rfl (by decide)).mono ?_
 rintro e w1 hp
 rcases hp.cases with ⟨x1,ts1,v1,hq1,hf,hi,rfl,hv⟩|⟨ts1,hq1,hf,hi,rfl⟩
 ·clear hp
  obtain rfl:=hv
  have hT:Fr [c.R] w0 w1:=((Fr.refl _ _).alloc _).trans hf
  have HI1:=hid hi
  have HF1:Hid (Fr [c.R,w.heap.size+1] w0 w1):=hid hT.wide
  have HD1:=hid (HD0.out.keep hT (by simp;omega))
  have HB1:=hid (HB0.out.keep hT (by simp;omega))
  have hz1:w0.heap.size≤w1.heap.size:=hT.size
  have hl1:ts1.length<ts.length:=expect_len hq1.out rfl
  clear hT hf hi
  go_wp2_with fail
  refine(name_any c ts1 _ HI1.out).mono ?_
  rintro e w2 hp
  rcases hp.cases with ⟨x2,ts2,v2,hq2,hf,hi,rfl,hv⟩|⟨ts2,hq2,hf,hi,rfl⟩
  ·clear hp
   obtain rfl:=hv
   have HI2:=hid hi
   have HF2:Hid (Fr [c.R,w.heap.size+1] w0 w2):=hid (HF1.out.trans hf.wide)
   have hD2:=HD1.out.keep hf (by simp;omega)
   have HD2:=hid hD2
   have HB2:=hid (HB1.out.keep hf (by simp;omega))
   have hz2:w0.heap.size≤w2.heap.size:=Nat.le_trans hz1 hf.size
   have hl2:ts2.length<ts1.length:=Strict.name _ _ _ hq2.out
   have hlD:w.heap.size+1<w2.heap.size:=by omega
   obtain⟨d0,f0⟩:=HD2.out.df 0 (v:=.string ⟨#[]⟩) rfl
   clear hf hi hD2
   go_wp2_with fail
   clear d0 f0 hlD
   have hs2:Fr [w.heap.size+1] w2 (w2.setCell ⟨w.heap.size+1,0,none⟩ (.string ⟨x2.toArray⟩)):=(Fr.refl _ _).setCell (.inl (by simp)) _
   have HI2s:=hid (HI2.out.frp HAP.out hs2)
   have HF2s:=hid (HF2.out.trans (hs2.mono (Y:=[c.R,w.heap.size+1]) (fun k _ hk=>by simp at hk;simp[hk])))
   have HD2s:=hid (HD2.out.set 0 (.string ⟨x2.toArray⟩))
   have HB2s:=hid (HB2.out.keep hs2 (by simp))
   have hz2s:w0.heap.size≤(w2.setCell ⟨w.heap.size+1,0,none⟩ (.string ⟨x2.toArray⟩)).heap.size:=Nat.le_trans hz2 hs2.size
   have HZ2:Hid ((w2.setCell ⟨w.heap.size+1,0,none⟩ (.string ⟨x2.toArray⟩)).heap.size=w2.heap.size):=hid (by simp[World.setCell])
   generalize w2.setCell ⟨w.heap.size+1,0,none⟩ (.string ⟨x2.toArray⟩)=w2s at *
   clear hs2
   refine(expect_any c ts2 [[59]] _ _ 1 (HI2s.out.alloc _) rfl (by exact Blk.new_at HZ2.out) rfl (by decide)).mono ?_
   rintro e w3 hp
   rcases hp.cases with ⟨x3,ts3,v3,hq3,hf,hi,rfl,hv⟩|⟨ts3,hq3,hf,hi,rfl⟩
   ·clear hp
    obtain rfl:=hv
    have hT:Fr [c.R] w2s w3:=((Fr.refl _ _).alloc _).trans hf
    have HI3:=hid hi
    have HF3:=hid (HF2s.out.trans hT.wide)
    have HD3:=hid (HD2s.out.k hT)
    have HB3:=hid (HB2s.out.keep hT (by simp;omega))
    have hz3:w0.heap.size≤w3.heap.size:=Nat.le_trans hz2s hT.size
    have hl3:ts3.length<ts2.length:=expect_len hq3.out rfl
    have HMU:Hid (∀ r,Px.usesF n [] ts3=.bad r→Px.module c.size n ts=.bad r):=hid (fun r hr=>by simp only[Px.module,bind,Px.Rd.bind,hq1.out,hq2.out,hq3.out,hr])
    have HMO:Hid (∀ u r,Px.usesF n [] ts3=.ok u r→Px.module c.size n ts=Px.itemsF c.size n n ⟨x2,u,[],[],[],[]⟩ r):=hid (fun u r hr=>by simp only[Px.module,bind,Px.Rd.bind,hq1.out,hq2.out,hq3.out,hr])
    clear hT hf hi hq1 hq2 hq3 HI1 HF1 HD1 HB1 HI2 HF2 HD2 HB2 HI2s HF2s HD2s HB2s hz2s
    go_wp2_with fail
    go_loopw [] (fun wr=>UsesRel c w w0 n x2 ts3 wr) (fun wr=>tokLen c wr)
    case atStart =>
     exact⟨[],ts3,n,.slice none 0 0,HI3.out,HF3.out,HB3.out,HD3.out,.inl ⟨rfl,rfl,rfl⟩,by omega,by simp;omega,by omega,rfl⟩
    case round =>
     obtain⟨us,ts',k,v,hI,hF,hB,hD,hL,hk,hn,hle,heq⟩:=hrel
     obtain⟨p,cc,rfl⟩:=hL.shape
     cases k with
     | zero=>omega
     | succ k =>
     have HI4:=hid hI
     have HF4:=hid hF
     have HB4:=hid hB
     have HD4:=hid hD
     have HL4:=hid hL
     have HEQ:=hid heq
     have hzr:w0.heap.size≤_:=hF.size
     clear hI hF hB hD hL heq
     go_wp2_with fail
     refine(accept_any c ts' [[117,115,101]] _ _ 1 (HI4.out.alloc _) rfl (by exact Blk.new _ _ _) rfl (by decide)).mono ?_
     rintro e w5 hp
     rcases hp.accept with ⟨hq,_,hf,hi,rfl⟩|⟨hq,hf,hi,rfl⟩
     ·have hlt:=accept_pos hq.out rfl
      clear hp
      have hT:Fr [c.R] wr w5:=((Fr.refl _ _).alloc _).trans hf
      have HI5:=hid hi
      have HF5:=hid (HF4.out.trans hT.wide)
      have HB5:=hid (HB4.out.keep hT (by simp;omega))
      have hD5:=HD4.out.keep hT (by simp;omega)
      have HD5:=hid hD5
      have HL5:=hid (HL4.out.keep hT (by simp;omega))
      have hz5:w0.heap.size≤w5.heap.size:=Nat.le_trans hzr hT.size
      have d1:w5.cell? ⟨w.heap.size+1,1,none⟩=some (.slice p us.length cc):=hD5.cell 1
      have HQ:=hid hq.out
      clear hT hf hi hD5 hq
      have HBAD:Hid (∀ ts6 w6,Px.name ts'.tail=.bad ts6→Fr [c.R] w5.drew w6→Inv c ts6 w6→RP c w (okAgg modQ) (Px.module c.size n ts) (.panicked [failE c ts6]) w6) :=
       hid (fun ts6 w6 hx hf6 hi6=>RP.bad (HMU.out _ (HEQ.out.trans (usesF_bad HQ.out hx))) (HF0.out.join (X:=[w.heap.size+1]) (HF5.out.drew.trans hf6.wide) (by simp)) hi6)
      go_wp2_with fail
      go_region_law (first|(refine step_append_list _ (by rfl) _ _ 23 (by rfl) w0.heap.size 9 i0 _ 1 16 Tryz.underlying23 HINF.out iz0 iz1 iz2 rfl (by decide) (.slice p us.length cc) us.length 1 (rowsQ strQ us) (strQ x) (by rfl) G1.out ⟨w6.heap.size,0,none⟩ 1 [.string ⟨x.toArray⟩] (by rfl) (by decide) rfl G2.out G3.out (by omega) (by decide) g4 ?_;intro p' c' w7 hL7 hg7;have hown:∀ k,(.slice p us.length cc:Value).ownBlock=some k→w0.heap.size≤k:=(fun k e=>(HL5.out.own k e).1);have hD7:=hid (((HD5.out.keep ((Fr.refl [c.R] w5).drew.trans hf6) (by simp;omega)).alloc (.cells #[.string ⟨x.toArray⟩] 9)).grown hg7 (fun k e=>by have:=hown k e;omega));have hk7:w7.cell? ⟨w.heap.size+1,1,none⟩=some (.slice p us.length cc):=hD7.out.cell 1;have hf7:w7.frozen? ⟨w.heap.size+1,1,none⟩=false:=hD7.out.frozen 1;have HL7:=hid hL7;have HG7:=hid hg7;clear hL7 hg7)|(go_simp;go_at_call 54;refine Calls.both (name_any c ts'.tail _ HI5.out.drew) (fun ts6 w6 h1 h2 h3=>And.intro rfl (HBAD.out ts6 w6 h1 h2 h3)) ?_;intro x ts6 v6 w6 hq6 hf6 hi6 hv6;obtain rfl:=hv6;have hk6:w6.cell? ⟨w.heap.size+1,1,none⟩=some (.slice p us.length cc):=(hf6.cell HD5.out.lt (by simp;omega) 1).trans d1;have h9:w5.heap.size≤w6.heap.size:=hf6.size;have hz6:w.heap.size+1<w6.heap.size:=(by omega);have hr6:Rep w6 (fun k=>w5.heap.size≤k) (strQ x) [.string ⟨x.toArray⟩]:=rep_str.2 ⟨_,rfl,rep_nil.2 rfl⟩;obtain⟨g1,g2,g3,g4⟩:=append_ready (news:=[.string ⟨x.toArray⟩]) HL5.out (Nat.le_refl _) ((Fr.refl [c.R] w5).drew.trans hf6) (by omega) hz5 hr6 9;have G1:=hid g1;have G2:=hid g2;have G3:=hid g3;have HQ6:=hid hq6.out;clear g1 g2 g3 hr6 hq6))
      all_goals
       have hl6:ts6.length<ts'.tail.length:=Strict.name _ _ _ HQ6.out
       have hB7:=(((HB5.out.keep ((Fr.refl [c.R] w5).drew.trans hf6) (by simp;omega)).alloc (.cells #[.string ⟨x.toArray⟩] 9)).grown HG7.out (fun k e=>by have:=hown k e;omega))
       have hI7:=(hi6.alloc (.cells #[.string ⟨x.toArray⟩] 9)).grown HI0.out HG7.out hown
       have hF7:=((HF5.out.drew.trans hf6.wide).alloc (.cells #[.string ⟨x.toArray⟩] 9)).grown HG7.out hown
       have hz7:w0.heap.size≤w7.heap.size:=by have h1:=HG7.out.size;simp at h1;omega
       have hfs:Fr [w.heap.size+1] w7 (w7.setCell ⟨w.heap.size+1,1,none⟩ (.slice p' (us.length+1) c')):=(Fr.refl _ _).setCell (.inl (by simp)) _
       have HF8:=hid (hF7.trans (hfs.mono (Y:=[c.R,w.heap.size+1]) (fun k _ hk=>by simp at hk;simp[hk])))
       have HI8:=hid (hI7.frp HAP.out hfs)
       have HB8:=hid (hB7.keep hfs (by simp))
       have HD8:=hid (Blk.set hD7.out 1 (.slice p' (us.length+1) c'))
       have HL8:=hid (HL7.out.keep hfs (by simp;omega))
       have hz8:w0.heap.size≤(w7.setCell ⟨w.heap.size+1,1,none⟩ (.slice p' (us.length+1) c')).heap.size:=Nat.le_trans hz7 hfs.size
       clear hfs hI7 hF7 hB7 hf6 hi6 hk6 hk7 hf7 hown
       go_wp2_with fail
       have HZ8:Hid ((w7.setCell ⟨w.heap.size+1,1,none⟩ (.slice p' (us.length+1) c')).heap.size=w7.heap.size):=hid (by simp[World.setCell])
       generalize w7.setCell ⟨w.heap.size+1,1,none⟩ (.slice p' (us.length+1) c')=w8 at *
       refine(expect_any c ts6 [[59]] _ _ 1 (HI8.out.alloc _) rfl (by exact Blk.new_at HZ8.out) rfl (by decide)).mono ?_
       rintro e w9 hp
       rcases hp.cases with ⟨x9,ts9,v9,hq9,hf,hi,rfl,hv⟩|⟨ts9,hq9,hf,hi,rfl⟩
       ·clear hp
        obtain rfl:=hv
        have hT:Fr [c.R] w8 w9:=((Fr.refl _ _).alloc _).trans hf
        have HI9:=hid hi
        have HF9:=hid (HF8.out.trans hT.wide)
        have HB9:=hid (HB8.out.keep hT (by simp;omega))
        have HD9:=hid (HD8.out.keep hT (by simp;omega))
        have HL9:=hid (HL8.out.keep hT (by simp;omega))
        have hl9:ts9.length<ts6.length:=expect_len hq9.out rfl
        have HEQ9:=hid (HEQ.out.trans (usesF_ok HQ.out HQ6.out hq9.out))
        clear hT hf hi hq9
        go_wp2_with fail
        go_roundw
        case rel=>exact⟨us ++ [x],ts9,k,_,HI9.out,HF9.out,HB9.out,HD9.out,by rw[List.length_append,rowsQ_snoc];exact HL9.out,by omega,by simp;omega,by omega,HEQ9.out⟩
        case measure=>rw[HI9.out.tokLen,HI4.out.tokLen];omega
       ·go_wp2_with fail
        exact⟨rfl,RP.bad (HMU.out _ (HEQ.out.trans (usesF_bad2 HQ.out HQ6.out hq9.out))) (HF0.out.join (X:=[w.heap.size+1]) (HF8.out.trans (((Fr.refl _ _).alloc _).trans hf).wide) (by simp)) hi⟩
     ·clear hp
      have hT:Fr [c.R] wr w5:=((Fr.refl _ _).alloc _).trans hf
      have HI5:=hid hi
      have HF5:=hid (HF4.out.trans hT.wide)
      have HB5:=hid (HB4.out.keep hT (by simp;omega))
      have HD5:=hid (HD4.out.keep hT (by simp;omega))
      have HL5:=hid (HL4.out.keep hT (by simp;omega))
      have HMI:=hid (HMO.out _ _ (HEQ.out.trans (usesF_no hq.out)))
      clear hT hf hi hq HI4 HF4 HB4 HD4 HL4 HEQ
      go_wp2_with fail
      go_loopw [] (fun wr=>ItemsRel c w w0 n ⟨x2,us,[],[],[],[]⟩ ts' wr) (fun wr=>tokLen c wr)
      case atStart =>
       exact⟨⟨x2,us,[],[],[],[]⟩,ts',n,_,_,_,_,_,HI5.out,HF5.out,HB5.out,HD5.out,⟨HL5.out,.inl ⟨rfl,rfl,rfl⟩,.inl ⟨rfl,rfl,rfl⟩,.inl ⟨rfl,rfl,rfl⟩,.inl ⟨rfl,rfl,rfl⟩⟩,by omega,by simp;omega,by omega,rfl⟩
      case round =>
       obtain⟨M,ts8,k8,vu,vd,vt,vi,vf,hI,hF,hB,hD,hM,hk8,hn8,hle8,heq8⟩:=hrel
       cases k8 with
       | zero=>omega
       | succ k8 =>
       have HI6:=hid hI
       have HF6:=hid hF
       have HB6:=hid hB
       have HD6:=hid hD
       have HM6:=hid hM
       have HEQ8:=hid heq8
       clear hI hF hB hD hM heq8
       cases ts8 with
       | nil =>
        have hdn:=done_nil c _ HI6.out
        have HDN:=hid hdn
        clear hdn
        go_wp2_with fail
        refine HDN.out.mono ?_
        rintro e w' ⟨rfl,rfl⟩
        obtain⟨pu,cu,rfl⟩:=HM6.out.u.shape
        obtain⟨pd,cd,rfl⟩:=HM6.out.d.shape
        obtain⟨pt,ct,rfl⟩:=HM6.out.t.shape
        obtain⟨pi,ci,rfl⟩:=HM6.out.i.shape
        obtain⟨pf,cf,rfl⟩:=HM6.out.f.shape
        go_wp2_with (first|(refine wpList_load_row rfl 29 _ rfl (w.heap.size+1) rfl 29 #[.string ⟨M.name.toArray⟩,.slice pu M.uses.length cu,.slice pd M.datas.length cd,.slice pt M.traits.length ct,.slice pi M.impls.length ci,.slice pf M.funcs.length cf] (0,0) _ HD6.out Tryz.underlying29 rfl mod_size ?_)|(refine wpList_store_row rfl 29 _ _ rfl w.heap.size #[.string ⟨M.name.toArray⟩,.slice pu M.uses.length cu,.slice pd M.datas.length cd,.slice pt M.traits.length ct,.slice pi M.impls.length ci,.slice pf M.funcs.length cf] rfl rfl 29 _ HB6.out mod_size rfl (by simp[Value.oneCell']) ?_))
        have hfs:Fr [w.heap.size] wr (wr.setRow w.heap.size #[.string ⟨M.name.toArray⟩,.slice pu M.uses.length cu,.slice pd M.datas.length cd,.slice pt M.traits.length ct,.slice pi M.impls.length ci,.slice pf M.funcs.length cf]):=fr_setRow _ _ _
        have hbs:=setRow_heap wr w.heap.size _ #[.string ⟨M.name.toArray⟩,.slice pu M.uses.length cu,.slice pd M.datas.length cd,.slice pt M.traits.length ct,.slice pi M.impls.length ci,.slice pf M.funcs.length cf] 29 (0,0) HB6.out
        refine bodyPost_ret (v:=.agg #[.string ⟨M.name.toArray⟩,.slice pu M.uses.length cu,.slice pd M.datas.length cd,.slice pt M.traits.length ct,.slice pi M.impls.length ci,.slice pf M.funcs.length cf]) (results_cell_row (p:=2) rfl _ _ w.heap.size 29 #[.string ⟨M.name.toArray⟩,.slice pu M.uses.length cu,.slice pd M.datas.length cd,.slice pt M.traits.length ct,.slice pi M.impls.length ci,.slice pf M.funcs.length cf] (0,0) _ rfl hbs Tryz.underlying29 rfl mod_size) rfl ?_
        exact RP.ok (a:=M) (HMI.out.trans (HEQ8.out.trans itemsF_no)) (HF0.out.join (X:=[w.heap.size+1,w.heap.size]) ((HF6.out.mono (Y:=[c.R,w.heap.size+1,w.heap.size]) (fun k _ hk=>by simp at hk;simp;omega)).trans (hfs.mono (fun k _ hk=>by simp at hk;simp[hk]))) (by simp)) (HI6.out.fr (X:=[w.heap.size]) H.out hfs (by simp)) ⟨_,rfl,rep_own (b:=w.heap.size) (mod_rep HM6.out (b:=w0.heap.size) (Nat.le_refl _)) (X:=[w.heap.size]) hfs (by simp;omega) (by omega)⟩
       | cons t r8 =>
        have hdn:=done_cons c t r8 _ HI6.out
        have HDN:=hid hdn
        clear hdn
        go_wp2_with fail
        refine HDN.out.mono ?_
        rintro e w' ⟨rfl,rfl⟩
        go_wp2_with fail
        refine(item_any c M w0 ts HI0.out (t :: r8) _ HI6.out (w.heap.size+1) HAP.out (by omega) vu vd vt vi vf HF6.out HD6.out HM6.out n (by omega) (by omega)).mono ?_
        rintro e w9 hp
        rcases hp.cases with ⟨M9,ts9,vu9,vd9,vt9,vi9,vf9,hq9,hF9,hI9,rfl,hD9,hM9⟩|⟨ts9,hq9,hF9,hI9,rfl⟩
        ·clear hp
         have hs9:=item_sizes hq9.out
         obtain⟨hs9a,hs9b⟩:=hs9
         have HI9:=hid hI9
         have HF9:=hid hF9
         have HB9:=hid (HB0.out.keep hF9 (by simp;omega))
         have HD9:=hid hD9
         have HM9:=hid hM9
         have HEQ9:=hid (HEQ8.out.trans (itemsF_ok hq9.out))
         have HSA:=hid hs9a
         clear hI9 hF9 hD9 hM9 hq9 hs9a
         go_wp2_with fail
         go_roundw
         case rel=>exact⟨M9,ts9,k8,_,_,_,_,_,HI9.out,HF9.out,HB9.out,HD9.out,HM9.out,by simp at hs9b hk8;omega,by have:=HSA.out;simp at hn8 hs9b;omega,by simp at hs9b hle8;omega,HEQ9.out⟩
         case measure=>rw[HI9.out.tokLen,HI6.out.tokLen];simpa using hs9b
        ·go_wp2_with fail
         exact⟨rfl,RP.bad (HMI.out.trans (HEQ8.out.trans (itemsF_bad hq9.out))) (HF0.out.join (X:=[w.heap.size+1]) hF9 (by simp)) hI9⟩
   ·go_wp2_with fail
    exact⟨rfl,RP.bad (by simp only[Px.module,bind,Px.Rd.bind,hq1.out,hq2.out,hq3.out]) (HF0.out.join (X:=[w.heap.size+1]) (HF2s.out.trans (((Fr.refl _ _).alloc _).trans hf).wide) (by simp)) hi⟩
  ·go_wp2_with fail
   exact⟨rfl,RP.bad (by simp only[Px.module,bind,Px.Rd.bind,hq1.out,hq2.out]) (HF0.out.join (X:=[w.heap.size+1]) (HF1.out.trans hf.wide) (by simp)) hi⟩
 ·go_wp2_with fail
  exact⟨rfl,RP.bad (by simp only[Px.module,bind,Px.Rd.bind,hq1.out]) (HF0.out.join (X:=[w.heap.size+1]) (((Fr.refl _ _).alloc _).trans hf).wide (by simp)) hi⟩
theorem assert_failure (v:Value) (w:World):(Instr.typeAssert (.iface 81 v) 20 81 true).run Tryz.prog w=.ok (.tuple #[v,.bool true]) w:=by
 kernel_rfl
theorem catch_idle (p q r s:Addr) (w:World) :
  CallsD Tryz.prog 18 #[.pointer (some p),.pointer (some q),.pointer (some r),.pointer (some s)] .returning w fun e u' w'=>e=.returned (.tuple #[])∧u'=.returning∧w'=w:=by
 refine callsD_of_wpS Tryz.func18 rfl fun c₀ cs hu=>?_
 apply wpS_seq
 apply wpS_region
 simp[wpOpsS,go_sem,recoverD,hu,Tryz.ntmps18,Exit.thenS]
 refine wpS_of_wp ?_
 rw[show (#[Value.pointer (some p),Value.pointer (some q),Value.pointer (some r),Value.pointer (some s)] ++ (Array.replicate 16 undef).setIfInBounds 3 Value.nilIface)=#[.pointer (some p),.pointer (some q),.pointer (some r),.pointer (some s),undef,undef,undef,.nilIface,undef,undef,undef,undef,undef,undef,undef,undef,undef,undef,undef,undef] from by simp[Array.replicate]]
 go_wp2_with fail
 all_goals
  cases c₀
  simp_all [bodyPostS,results,Tryz.results18]
def Caught (p q r:Nat) (x y:Int) (w:World) (e:Ending) (u':FrameMode) (w':World):Prop :=
 e=.returned (.tuple #[])∧u'=.panicking [{ v:=.iface 81 (.agg #[.int .i64 x,.int .i64 y]),recovered:=true }]∧Fr [p,q,r] w w' ∧
 Blk w' p 29 #[.string ⟨#[]⟩,.slice none 0 0,.slice none 0 0,.slice none 0 0,.slice none 0 0,.slice none 0 0]∧Blk w' q 30 #[.int .i64 x]∧Blk w' r 3 #[.int .i64 y]
set_option maxRecDepth 100000 in
set_option maxHeartbeats 1600000 in
theorem catch_panicking (p q r s:Nat) (x y z1 z2:Int) (m0 m1 m2 m3 m4 m5:Value) (w:World) (hp:Blk w p 29 #[m0,m1,m2,m3,m4,m5]) (hq:Blk w q 30 #[.int .i64 z1]) (hr:Blk w r 3 #[.int .i64 z2]) (h1:p≠q) (h2:p≠r) (h3:q≠r) :
  CallsD Tryz.prog 18 #[.pointer (some ⟨p,0,none⟩),.pointer (some ⟨q,0,none⟩),.pointer (some ⟨r,0,none⟩),.pointer (some ⟨s,0,none⟩)] (.panicking [{ v:=.iface 81 (.agg #[.int .i64 x,.int .i64 y]),recovered:=false }]) w (Caught p q r x y w):=by
 have p0:w.cell? ⟨p,0,none⟩=some m0:=hp.cell 0
 have pf0:w.frozen? ⟨p,0,none⟩=false:=hp.frozen 0
 have p1:w.cell? ⟨p,1,none⟩=some m1:=hp.cell 1
 have pf1:w.frozen? ⟨p,1,none⟩=false:=hp.frozen 1
 have p2:w.cell? ⟨p,2,none⟩=some m2:=hp.cell 2
 have pf2:w.frozen? ⟨p,2,none⟩=false:=hp.frozen 2
 have p3:w.cell? ⟨p,3,none⟩=some m3:=hp.cell 3
 have pf3:w.frozen? ⟨p,3,none⟩=false:=hp.frozen 3
 have p4:w.cell? ⟨p,4,none⟩=some m4:=hp.cell 4
 have pf4:w.frozen? ⟨p,4,none⟩=false:=hp.frozen 4
 have p5:w.cell? ⟨p,5,none⟩=some m5:=hp.cell 5
 have pf5:w.frozen? ⟨p,5,none⟩=false:=hp.frozen 5
 have q0:w.cell? ⟨q,0,none⟩=some (.int .i64 z1):=hq.cell 0
 have qf0:w.frozen? ⟨q,0,none⟩=false:=hq.frozen 0
 have r0:w.cell? ⟨r,0,none⟩=some (.int .i64 z2):=hr.cell 0
 have rf0:w.frozen? ⟨r,0,none⟩=false:=hr.frozen 0
 have lp:p<w.heap.size:=hp.lt
 have hta:=assert_failure
 have lq:q<w.heap.size:=hq.lt
 have lr:r<w.heap.size:=hr.lt
 have h1':q≠p:=fun e=>h1 e.symm
 have h2':r≠p:=fun e=>h2 e.symm
 have h3':r≠q:=fun e=>h3 e.symm
 have HP:=hid hp
 have HQ:=hid hq
 have HR:=hid hr
 clear hp hq hr
 refine callsD_of_wpS Tryz.func18 rfl fun c₀ cs hu=>?_
 apply wpS_seq
 apply wpS_region
 simp[wpOpsS,go_sem,recoverD,hu,Tryz.ntmps18,Exit.thenS]
 refine wpS_of_wp ?_
 rw[show (#[Value.pointer (some ⟨p,0,none⟩),Value.pointer (some ⟨q,0,none⟩),Value.pointer (some ⟨r,0,none⟩),Value.pointer (some ⟨s,0,none⟩)] ++ (Array.replicate 16 undef).setIfInBounds 3 (Value.iface 81 (Value.agg #[Value.int IntKind.i64 x,Value.int IntKind.i64 y])))=#[.pointer (some ⟨p,0,none⟩),.pointer (some ⟨q,0,none⟩),.pointer (some ⟨r,0,none⟩),.pointer (some ⟨s,0,none⟩),undef,undef,undef,Value.iface 81 (Value.agg #[Value.int IntKind.i64 x,Value.int IntKind.i64 y]),undef,undef,undef,undef,undef,undef,undef,undef,undef,undef,undef,undef] from by simp[Array.replicate]]
 go_upto_region 7 with fail
 clear p0 p1 p2 p3 p4 p5 pf0 pf1 pf2 pf3 pf4 pf5 q0 qf0 r0 rf0
 obtain⟨F,hF⟩:∃ F,F=w.heap.size:=⟨_,rfl⟩
 have hpF:p≠F:=by omega
 have hqF:q≠F:=by omega
 have hrF:r≠F:=by omega
 have HF1:Hid (Fr [p,q,r] w (w.alloc (.cells #[.int .i64 x,.int .i64 y] 81))):=hid ((Fr.refl _ _).alloc _)
 have HP1:=hid (HP.out.alloc (.cells #[.int .i64 x,.int .i64 y] 81))
 have HQ1:=hid (HQ.out.alloc (.cells #[.int .i64 x,.int .i64 y] 81))
 have HR1:=hid (HR.out.alloc (.cells #[.int .i64 x,.int .i64 y] 81))
 have HX1:Hid (Blk (w.alloc (.cells #[.int .i64 x,.int .i64 y] 81)) F 81 #[.int .i64 x,.int .i64 y]):=hid (by rw[hF];exact Blk.new _ _ _)
 have hws:Hid (F<(w.alloc (.cells #[.int .i64 x,.int .i64 y] 81)).heap.size):=hid (by rw[hF];simp)
 rw[← hF]
 generalize w.alloc (.cells #[.int .i64 x,.int .i64 y] 81)=w1 at *
 clear hF lp lq lr hta
 have p0:w1.cell? ⟨p,0,none⟩=some m0:=HP1.out.cell 0
 have pf0:=HP1.out.frozen 0
 have p1:w1.cell? ⟨p,1,none⟩=some m1:=HP1.out.cell 1
 have pf1:=HP1.out.frozen 1
 have p2:w1.cell? ⟨p,2,none⟩=some m2:=HP1.out.cell 2
 have pf2:=HP1.out.frozen 2
 have p3:w1.cell? ⟨p,3,none⟩=some m3:=HP1.out.cell 3
 have pf3:=HP1.out.frozen 3
 have p4:w1.cell? ⟨p,4,none⟩=some m4:=HP1.out.cell 4
 have pf4:=HP1.out.frozen 4
 have p5:w1.cell? ⟨p,5,none⟩=some m5:=HP1.out.cell 5
 have pf5:=HP1.out.frozen 5
 obtain⟨q0,qf0⟩:=HQ1.out.df 0 (v:=.int .i64 z1) rfl
 obtain⟨r0,rf0⟩:=HR1.out.df 0 (v:=.int .i64 z2) rfl
 have x0:=HX1.out.at 0 (v:=.int .i64 x) rfl
 have x1:=HX1.out.at 1 (v:=.int .i64 y) rfl
 go_region
 clear p0 p1 p2 p3 p4 p5 pf0 pf1 pf2 pf3 pf4 pf5 q0 qf0 r0 rf0 x0 x1
 have g0:=Blk.set HP1.out 0 (.string ⟨#[]⟩)
 have g1:=Blk.set g0 1 (.slice none 0 0)
 have g2:=Blk.set g1 2 (.slice none 0 0)
 have g3:=Blk.set g2 3 (.slice none 0 0)
 have g4:=Blk.set g3 4 (.slice none 0 0)
 have g5:=Blk.set g4 5 (.slice none 0 0)
 have g6:=Blk.other g5 (p:=⟨q,0,none⟩) h1 (.int .i64 x)
 have g7:=Blk.other g6 (p:=⟨r,0,none⟩) h2 (.int .i64 y)
 have k0:=Blk.other HQ1.out (p:=⟨p,0,none⟩) h1' (.string ⟨#[]⟩)
 have k1:=Blk.other k0 (p:=⟨p,1,none⟩) h1' (.slice none 0 0)
 have k2:=Blk.other k1 (p:=⟨p,2,none⟩) h1' (.slice none 0 0)
 have k3:=Blk.other k2 (p:=⟨p,3,none⟩) h1' (.slice none 0 0)
 have k4:=Blk.other k3 (p:=⟨p,4,none⟩) h1' (.slice none 0 0)
 have k5:=Blk.other k4 (p:=⟨p,5,none⟩) h1' (.slice none 0 0)
 have k6:=Blk.other (Blk.set k5 0 (.int .i64 x)) (p:=⟨r,0,none⟩) h3 (.int .i64 y)
 have r0:=Blk.other HR1.out (p:=⟨p,0,none⟩) h2' (.string ⟨#[]⟩)
 have r1:=Blk.other r0 (p:=⟨p,1,none⟩) h2' (.slice none 0 0)
 have r2:=Blk.other r1 (p:=⟨p,2,none⟩) h2' (.slice none 0 0)
 have r3:=Blk.other r2 (p:=⟨p,3,none⟩) h2' (.slice none 0 0)
 have r4:=Blk.other r3 (p:=⟨p,4,none⟩) h2' (.slice none 0 0)
 have r5:=Blk.other r4 (p:=⟨p,5,none⟩) h2' (.slice none 0 0)
 have r6:=Blk.set (Blk.other r5 (p:=⟨q,0,none⟩) h3' (.int .i64 x)) 0 (.int .i64 y)
 have hfin:Fr [p,q,r] w1 ((((((((w1.setCell ⟨p,0,none⟩ (.string ⟨#[]⟩)).setCell ⟨p,1,none⟩ (.slice none 0 0)).setCell ⟨p,2,none⟩ (.slice none 0 0)).setCell ⟨p,3,none⟩ (.slice none 0 0)).setCell ⟨p,4,none⟩ (.slice none 0 0)).setCell ⟨p,5,none⟩ (.slice none 0 0)).setCell ⟨q,0,none⟩ (.int .i64 x)).setCell ⟨r,0,none⟩ (.int .i64 y)):=by
  repeat' (first|with_reducible exact Fr.refl _ _|with_reducible refine Fr.setCell ?_ (Or.inl ?_) _|(simp;done))
 have G7:=hid g7
 have K6:=hid k6
 have R6:=hid r6
 have HFIN:=hid hfin
 clear g0 g1 g2 g3 g4 g5 g6 g7 k0 k1 k2 k3 k4 k5 k6 r0 r1 r2 r3 r4 r5 r6 hfin HP HQ HR HP1 HQ1 HR1 HX1 hws
 generalize (((((((w1.setCell ⟨p,0,none⟩ (.string ⟨#[]⟩)).setCell ⟨p,1,none⟩ (.slice none 0 0)).setCell ⟨p,2,none⟩ (.slice none 0 0)).setCell ⟨p,3,none⟩ (.slice none 0 0)).setCell ⟨p,4,none⟩ (.slice none 0 0)).setCell ⟨p,5,none⟩ (.slice none 0 0)).setCell ⟨q,0,none⟩ (.int .i64 x)).setCell ⟨r,0,none⟩ (.int .i64 y)=w2 at *
 have hpost:Caught p q r x y w (.returned (.tuple #[])) (.panicking [{ v:=.iface 81 (.agg #[.int .i64 x,.int .i64 y]),recovered:=true }]) w2.drew:=⟨rfl,rfl,(HF1.out.trans HFIN.out).drew,G7.out,K6.out,R6.out⟩
 exact⟨rfl,_,rfl,.tuple #[],results_none rfl _ _ _,hpost⟩
def ReadPost (c:Ctx) (w:World) (r:Px.Res ModD) (e:Ending) (w':World):Prop :=
 Fr [c.R] w w' ∧
 match r with
 | .ok M _=>∃ cs,e=.returned (.tuple #[.agg cs.toArray,.int .i64 0,.int .i64 0])∧Rep w' (fun k=>w.heap.size≤k) (modQ M) cs
 | .bad ts=>e=.returned (.tuple #[.agg #[.string ⟨#[]⟩,.slice none 0 0,.slice none 0 0,.slice none 0 0,.slice none 0 0,.slice none 0 0],.int .i64 (errOf ts),.int .i64 (offOf c.size ts)])
set_option maxRecDepth 100000 in
set_option maxHeartbeats 1600000 in
theorem read_any (c:Ctx) (ts:List Tk) (w:World) (h:Inv c ts w) (n:Nat) (hm:ts.length<n) :
  Calls Tryz.prog 10 #[.pointer (some ⟨c.R,0,none⟩)] w (ReadPost c w (Px.module c.size n ts)):=by
 have hmf:∀ (fn:Fn) (first cap:Array Value) (w:World),(Instr.makeFunc fn first cap).run Tryz.prog w=.ok (.func fn first cap) w:=fun _ _ _ _=>rfl
 have H:=hid h
 have HR0:=H.out.lt.1
 clear h
 go_enter_defers Tryz.func10,Tryz.ntmps10
 go_wp2_with fail
 have hin:Inv c ts ((((w.alloc (.cells #[.pointer (some ⟨c.R,0,none⟩)] 56)).alloc (.cells #[.string ⟨#[]⟩,.slice none 0 0,.slice none 0 0,.slice none 0 0,.slice none 0 0,.slice none 0 0] 29)).alloc (.cells #[.int .i64 0] 30)).alloc (.cells #[.int .i64 0] 3)):=(((H.out.alloc _).alloc _).alloc _).alloc _
 have hfr:Fr [] w ((((w.alloc (.cells #[.pointer (some ⟨c.R,0,none⟩)] 56)).alloc (.cells #[.string ⟨#[]⟩,.slice none 0 0,.slice none 0 0,.slice none 0 0,.slice none 0 0,.slice none 0 0] 29)).alloc (.cells #[.int .i64 0] 30)).alloc (.cells #[.int .i64 0] 3)):=((((Fr.refl _ _).alloc _).alloc _).alloc _).alloc _
 have hbm:Blk ((((w.alloc (.cells #[.pointer (some ⟨c.R,0,none⟩)] 56)).alloc (.cells #[.string ⟨#[]⟩,.slice none 0 0,.slice none 0 0,.slice none 0 0,.slice none 0 0,.slice none 0 0] 29)).alloc (.cells #[.int .i64 0] 30)).alloc (.cells #[.int .i64 0] 3)) (w.heap.size+1) 29 #[.string ⟨#[]⟩,.slice none 0 0,.slice none 0 0,.slice none 0 0,.slice none 0 0,.slice none 0 0]:=((Blk.new_at (by simp)).alloc _).alloc _
 have hbe:Blk ((((w.alloc (.cells #[.pointer (some ⟨c.R,0,none⟩)] 56)).alloc (.cells #[.string ⟨#[]⟩,.slice none 0 0,.slice none 0 0,.slice none 0 0,.slice none 0 0,.slice none 0 0] 29)).alloc (.cells #[.int .i64 0] 30)).alloc (.cells #[.int .i64 0] 3)) (w.heap.size+1+1) 30 #[.int .i64 0]:=(Blk.new_at (by simp)).alloc _
 have hbi:Blk ((((w.alloc (.cells #[.pointer (some ⟨c.R,0,none⟩)] 56)).alloc (.cells #[.string ⟨#[]⟩,.slice none 0 0,.slice none 0 0,.slice none 0 0,.slice none 0 0,.slice none 0 0] 29)).alloc (.cells #[.int .i64 0] 30)).alloc (.cells #[.int .i64 0] 3)) (w.heap.size+1+1+1) 3 #[.int .i64 0]:=Blk.new_at (by simp)
 have hsz:w.heap.size+4≤((((w.alloc (.cells #[.pointer (some ⟨c.R,0,none⟩)] 56)).alloc (.cells #[.string ⟨#[]⟩,.slice none 0 0,.slice none 0 0,.slice none 0 0,.slice none 0 0,.slice none 0 0] 29)).alloc (.cells #[.int .i64 0] 30)).alloc (.cells #[.int .i64 0] 3)).heap.size:=by simp
 generalize (((w.alloc (.cells #[.pointer (some ⟨c.R,0,none⟩)] 56)).alloc (.cells #[.string ⟨#[]⟩,.slice none 0 0,.slice none 0 0,.slice none 0 0,.slice none 0 0,.slice none 0 0] 29)).alloc (.cells #[.int .i64 0] 30)).alloc (.cells #[.int .i64 0] 3)=w1 at *
 refine(module_any c ts w1 hin n hm).mono ?_
 have HFR:=hid hfr
 have HBM:=hid hbm
 have HBE:=hid hbe
 have HBI:=hid hbi
 clear hin hfr hbm hbe hbi
 rintro e w2 hp
 rcases hp.cases with ⟨M,ts2,v,hq,hf,hi,rfl,hv⟩|⟨ts2,hq,hf,hi,rfl⟩
 ·obtain⟨cs,rfl,hrep⟩:=hv
  obtain⟨y1,y2,y3,y4,y5,y6,rfl⟩:=cells_6 (hrep.len.trans rfl)
  obtain⟨s1,rfl⟩:=hrep.kind 0 rfl (kind_modQ M 0 rfl)
  obtain⟨p2,n2,c2,rfl⟩:=hrep.kind 1 rfl (kind_modQ M 1 rfl)
  obtain⟨p3,n3,c3,rfl⟩:=hrep.kind 2 rfl (kind_modQ M 2 rfl)
  obtain⟨p4,n4,c4,rfl⟩:=hrep.kind 3 rfl (kind_modQ M 3 rfl)
  obtain⟨p5,n5,c5,rfl⟩:=hrep.kind 4 rfl (kind_modQ M 4 rfl)
  obtain⟨p6,n6,c6,rfl⟩:=hrep.kind 5 rfl (kind_modQ M 5 rfl)
  have HBM2:=hid (HBM.out.keep hf (by simp;omega))
  have HBE2:=hid (HBE.out.keep hf (by simp;omega))
  have HBI2:=hid (HBI.out.keep hf (by simp;omega))
  have HREP:=hid hrep
  have HF2:Hid (Fr [c.R] w w2):=hid ((HFR.out.mono (fun k _ hk=>by cases hk)).trans hf)
  have hz2:w.heap.size+4≤w2.heap.size:=Nat.le_trans hsz hf.size
  have HQ:=hid hq.out
  clear hp hf hi hrep hq
  obtain⟨a0,a1,a2,a3,a4,a5,af0,af1,af2,af3,af4,af5⟩:=HBM2.out.cf6
  obtain⟨b0,bf0⟩:=HBE2.out.df 0 (v:=.int .i64 0) rfl
  obtain⟨i0,if0⟩:=HBI2.out.df 0 (v:=.int .i64 0) rfl
  have hza:w.heap.size+1<w2.heap.size:=by omega
  have hzb:w.heap.size+1+1<w2.heap.size:=by omega
  have hzc:w.heap.size+1+1+1<w2.heap.size:=by omega
  go_wp2_with fail
  refine leaves_cons (f:=18) (args:=#[.pointer (some ⟨w.heap.size+1,0,none⟩),.pointer (some ⟨w.heap.size+1+1,0,none⟩),.pointer (some ⟨w.heap.size+1+1+1,0,none⟩),.pointer (some ⟨w.heap.size,0,none⟩)]) (by simp) (by kernel_rfl) ?_
  refine(catch_idle ⟨w.heap.size+1,0,none⟩ _ _ _ _).mono ?_
  rintro e u' w3 ⟨rfl,rfl,rfl⟩
  refine⟨.tuple #[.agg #[.string s1,.slice p2 n2 c2,.slice p3 n3 c3,.slice p4 n4 c4,.slice p5 n5 c5,.slice p6 n6 c6],.int .i64 0,.int .i64 0],by simp[results,Tryz.results10,go_sem,a0,a1,a2,a3,a4,a5,b0,i0,hza,hzb,hzc],?_⟩
  clear a0 a1 a2 a3 a4 a5 af0 af1 af2 af3 af4 af5 b0 bf0 i0 if0
  have hfs:Fr [w.heap.size+1,w.heap.size+1+1,w.heap.size+1+1+1] w2 ((((((((w2.setCell ⟨w.heap.size+1,0,none⟩ (.string s1)).setCell ⟨w.heap.size+1,1,none⟩ (.slice p2 n2 c2)).setCell ⟨w.heap.size+1,2,none⟩ (.slice p3 n3 c3)).setCell ⟨w.heap.size+1,3,none⟩ (.slice p4 n4 c4)).setCell ⟨w.heap.size+1,4,none⟩ (.slice p5 n5 c5)).setCell ⟨w.heap.size+1,5,none⟩ (.slice p6 n6 c6)).setCell ⟨w.heap.size+1+1,0,none⟩ (.int .i64 0)).setCell ⟨w.heap.size+1+1+1,0,none⟩ (.int .i64 0)):=by
   repeat' (first|with_reducible exact Fr.refl _ _|with_reducible refine Fr.setCell ?_ (Or.inl ?_) _|(simp;done))
  refine⟨HF2.out.join (X:=[w.heap.size+1,w.heap.size+1+1,w.heap.size+1+1+1]) (hfs.mono (fun k _ hk=>by simp at hk;simp;omega)) (by simp;omega),?_⟩
  rw[HQ.out]
  exact⟨_,rfl,rep_own (b:=w.heap.size) HREP.out (X:=[w.heap.size+1,w.heap.size+1+1,w.heap.size+1+1+1]) hfs (by simp;omega) (by omega)⟩
 ·have HBM2:=HBM.out.keep hf (by simp;omega)
  have HBE2:=HBE.out.keep hf (by simp;omega)
  have HBI2:=HBI.out.keep hf (by simp;omega)
  have hF2:Fr [c.R] w w2:=(HFR.out.mono (fun k _ hk=>by cases hk)).trans hf
  have HQ:=hid hq.out
  clear hp
  refine leaves_cons (f:=18) (args:=#[.pointer (some ⟨w.heap.size+1,0,none⟩),.pointer (some ⟨w.heap.size+1+1,0,none⟩),.pointer (some ⟨w.heap.size+1+1+1,0,none⟩),.pointer (some ⟨w.heap.size,0,none⟩)]) (by simp) (by kernel_rfl) ?_
  refine(catch_panicking _ _ _ _ _ _ _ _ _ _ _ _ _ _ _ HBM2 HBE2 HBI2 (by omega) (by omega) (by omega)).mono ?_
  rintro e u' w3 ⟨rfl,rfl,hf3,hb1,hb2,hb3⟩
  have a0:w3.cell? ⟨w.heap.size+1,0,none⟩=some (.string ⟨#[]⟩):=hb1.cell 0
  have a1:w3.cell? ⟨w.heap.size+1,1,none⟩=some (.slice none 0 0):=hb1.cell 1
  have a2:w3.cell? ⟨w.heap.size+1,2,none⟩=some (.slice none 0 0):=hb1.cell 2
  have a3:w3.cell? ⟨w.heap.size+1,3,none⟩=some (.slice none 0 0):=hb1.cell 3
  have a4:w3.cell? ⟨w.heap.size+1,4,none⟩=some (.slice none 0 0):=hb1.cell 4
  have a5:w3.cell? ⟨w.heap.size+1,5,none⟩=some (.slice none 0 0):=hb1.cell 5
  have b0:w3.cell? ⟨w.heap.size+1+1,0,none⟩=some (.int .i64 (errOf ts2)):=hb2.cell 0
  have i0:w3.cell? ⟨w.heap.size+1+1+1,0,none⟩=some (.int .i64 (offOf c.size ts2)):=hb3.cell 0
  have hza:=hb1.lt
  have hzb:=hb2.lt
  have hzc:=hb3.lt
  refine⟨.tuple #[.agg #[.string ⟨#[]⟩,.slice none 0 0,.slice none 0 0,.slice none 0 0,.slice none 0 0,.slice none 0 0],.int .i64 (errOf ts2),.int .i64 (offOf c.size ts2)],by simp[results,Tryz.results10,go_sem,a0,a1,a2,a3,a4,a5,b0,i0,hza,hzb,hzc],?_⟩
  refine⟨hF2.join (X:=[w.heap.size+1,w.heap.size+1+1,w.heap.size+1+1+1]) (hf3.mono (fun k _ hk=>by simp at hk;simp;omega)) (by simp;omega),?_⟩
  rw[HQ.out]
end Go.Proofs.YtghohohagbbajaaGreatDoor
