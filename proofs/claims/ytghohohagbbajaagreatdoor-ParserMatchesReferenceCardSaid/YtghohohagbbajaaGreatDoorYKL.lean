/- part of the proof -/
import Derived.Test.YtghohohagbbajaaGreatDoorYKC
import Derived.Test.YtghohohagbbajaaGreatDoorYKJ
import Derived.Test.YtghohohagbbajaaGreatDoorYKK
set_option linter.unusedVariables false
set_option linter.unusedSimpArgs false
set_option linter.unusedSectionVars false
namespace Go.Proofs.YtghohohagbbajaaGreatDoor
open Go.RowKit Go.Lib
open Lx (Tk)
open Px (Txt TyE VarD DataD TraitD BoundD ImplD ArgD ExprD StmtD ArmD FuncD ModD)
set_option maxRecDepth 100000 in
set_option maxHeartbeats 6400000 in
theorem rstmt_match (c:RCtx) (t:Tk) (r:List Tk) (w:World) (h:IR c (RS.live (t :: r)) w) (ht:t.text=[109,97,116,99,104]) (n m:Nat) (hst:RL c 99 (RS.mu (RS.live (t :: r))) (okAgg stmtQ) (Px.stmtF c.size n m)) (hm:(RS.mu (RS.live (t :: r)))≤n) :
  Calls Tryz.prog 99 #[.pointer (some ⟨c.R,0,none⟩)] w (RD c w (okAgg stmtQ) (do let o ← Px.offsetR c.size;refS c.size n m o) (RS.live (t :: r))):=by
 have HST:=hid hst
 clear hst
 obtain⟨i0,hi0,iz0,iz1,iz2⟩:=info_parts info_arm
 have HINF:=hid hi0
 clear hi0
 have H:=hid h
 have HR0:=H.out.lt.1
 clear h
 go_enter Tryz.func99,Tryz.ntmps99
 go_wp2_with fail
 refine(rat_same c (RS.live (t :: r)) _ (by exact H.out.f [] H.out)).mono ?_
 rintro e w1 hp
 obtain⟨x1,rfl,hq1,hf,hi⟩:=hp
 have hT:Fr [c.R] w w1:=Fr.trans frk hf.wide
 have hz1:=hf.size;try simp at hz1
 have HB1:Hid (Blk w1 (w.heap.size) 52 #[zI,zS,zN,zN,zI,zS,zS,zS,zN,zI,zN,zI,zN,zN,zN,zN,zI]):=hid ((Blk.new w _ _).keep hf (by first|(simp;done)|omega|(simp;omega)))
 have HI1:=hid hi
 have HF1:=hid ((Fr.refl [c.R] w).j hT)
 clear hT hf hi
 have hneDB:w1.heap.size≠w.heap.size:=by omega
 have hneBD:=hneDB.symm
 go_wp2_with (refine wpList_store_row rfl 52 _ _ rfl (w1.heap.size) #[.int .i64 0,.string ⟨#[]⟩,.slice none 0 0,.slice none 0 0,.int .i64 0,.string ⟨#[]⟩,.string ⟨#[]⟩,.string ⟨#[]⟩,.slice none 0 0,.int .i64 0,.slice none 0 0,.int .i64 0,.slice none 0 0,.slice none 0 0,.slice none 0 0,.slice none 0 0,.int .i64 x1] rfl rfl 52 _ (Blk.new_at (by simp)) rstmt_size rfl (by simp[Value.oneCell']) ?_)
 refine(rnext_no c (RS.live (t :: r)) [108,101,116] _ (by exact HI1.out.f [w1.heap.size] H.out) (by decide) (by decide) (fun ts e=>by cases e;rw[show Px.word (t :: r)=_ from ht];decide)).mono ?_
 rintro e wj0 ⟨rfl,hf,hi⟩
 have HG0:=hid hf
 have HJ0:=hid hi
 clear hf hi
 go_wp2_with fail
 refine(rnext_no c (RS.live (t :: r)) [42] _ HJ0.out (by decide) (by decide) (fun ts e=>by cases e;rw[show Px.word (t :: r)=_ from ht];decide)).mono ?_
 rintro e wj1 ⟨rfl,hf,hi⟩
 have HG1:=hid (HG0.out.trans hf)
 have HJ1:=hid hi
 clear hf hi
 go_wp2_with fail
 refine(rnext_no c (RS.live (t :: r)) [105,102] _ HJ1.out (by decide) (by decide) (fun ts e=>by cases e;rw[show Px.word (t :: r)=_ from ht];decide)).mono ?_
 rintro e wj2 ⟨rfl,hf,hi⟩
 have HG2:=hid (HG1.out.trans hf)
 have HJ2:=hid hi
 clear hf hi
 go_wp2_with fail
 refine(rnext_no c (RS.live (t :: r)) [119,104,105,108,101] _ HJ2.out (by decide) (by decide) (fun ts e=>by cases e;rw[show Px.word (t :: r)=_ from ht];decide)).mono ?_
 rintro e wj3 ⟨rfl,hf,hi⟩
 have HG3:=hid (HG2.out.trans hf)
 have HJ3:=hid hi
 clear hf hi
 go_wp2_with fail
 refine(rnext_yes c t r [109,97,116,99,104] _ HJ3.out ht (by decide) (by decide)).mono ?_
 rintro e w2 ⟨rfl,hf0,hi⟩
 have hf:=HG3.out.trans hf0
 obtain⟨hT,HB2,HI2,HF2,hz2⟩:=IR.st [w1.heap.size] HB1.out HF1.out hf hi
 try simp at hz2
 have HD2:Hid (Blk w2 (w1.heap.size) 52 #[zI,zS,zN,zN,zI,zS,zS,zS,zN,zI,zN,zI,zN,zN,zN,zN,.int .i64 x1]):=hid ((show Blk _ (w1.heap.size) 52 #[zI,zS,zN,zN,zI,zS,zS,zS,zN,zI,zN,zI,zN,zN,zN,zN,.int .i64 x1] from setRow_heap _ _ _ _ _ _ (Blk.new_at (by simp))).k hf)
 clear hT hf hi hf0
 have hlr:(RS.live r).mu<(RS.live (t :: r)).mu:=by simp[RS.mu]
 have hlD:=HD2.out.lt
 obtain⟨d0,f0⟩:=HD2.out.df 0 (v:=.int .i64 0) rfl
 go_wp2_with fail
 clear hlD d0 f0
 refine(rname_any c (RS.live r) _ (by exact HI2.out.f [w1.heap.size] H.out)).mono ?_
 rintro e w3 ⟨_,x3,s3,rfl,hq3,hf,hi,rfl⟩
 obtain⟨hT,HB3,HI3,HF3,hz3⟩:=IR.st [w1.heap.size] HB2.out HF2.out hf hi
 try simp at hz3
 have HD3:Hid (Blk w3 (w1.heap.size) 52 #[.int .i64 6,zS,zN,zN,zI,zS,zS,zS,zN,zI,zN,zI,zN,zN,zN,zN,.int .i64 x1]):=hid ((HD2.out.set 0 (.int .i64 6)).k hf)
 have hl3:=hq3.out.mu Shr.name
 clear hT hf hi
 have hlD:=HD3.out.lt
 obtain⟨d1,f1⟩:=HD3.out.df 1 (v:=.string ⟨#[]⟩) rfl
 go_wp2_with fail
 clear hlD d1 f1
 refine(rneed_q c s3 [123] _ (by exact HI3.out.f [w1.heap.size] H.out)).mono ?_
 rintro e w4 ⟨rfl,x4,s4,hq4,hf,hi⟩
 obtain⟨hT,HB4,HI4,HF4,hz4⟩:=IR.st [w1.heap.size] HB3.out HF3.out hf hi
 try simp at hz4
 have HD4:Hid (Blk w4 (w1.heap.size) 52 #[.int .i64 6,.string ⟨x3.toArray⟩,zN,zN,zI,zS,zS,zS,zN,zI,zN,zI,zN,zN,zN,zN,.int .i64 x1]):=hid ((HD3.out.set 1 (.string ⟨x3.toArray⟩)).k hf)
 have hl4:=hq4.out.mu (Shr.expect _)
 clear hT hf hi
 have hlD:=HD4.out.lt
 go_wp2_with fail
 clear hlD
 refine(rarm_any c s4 _ (by exact HI4.out.f [w1.heap.size] H.out) _ _ HST.out (strict_stmtF c.size n m) (shr_stmtF c.size n m) (by omega)).mono ?_
 rintro e w5 ⟨v5,x5,s5,rfl,hq5,hf,hi,hv⟩
 obtain⟨cs,rfl,hrep⟩:=hv
 obtain⟨s5_0,p5_1,n5_1,c5_1,p5_2,n5_2,c5_2,i5_3,rfl⟩:=hrep.c_armQ
 have hV5:=hrep.k (N':=(fun k=>w.heap.size≤k∧k≠w.heap.size∧k≠w1.heap.size)) (Fr.refl [] _)
 have HV5B:=hid (repk (N':=fun k=>w4.heap.size≤k) hrep (Fr.refl [] _) (fun k hk hl=>by simp at hk hl ⊢;omega))
 obtain⟨hT,HB5,HI5,HF5,hz5⟩:=IR.st [w1.heap.size] HB4.out HF4.out hf hi
 try simp at hz5
 have HD5:=hid (HD4.out.k hf)
 have HV5:=hid hV5
 have hl5:=hq5.out.mu (shr_arm _ (shr_stmtF c.size n m))
 clear hT hf hi hV5 hrep
 have hlD:=HD5.out.lt
 obtain⟨d14,f14⟩:=HD5.out.df 14 (v:=.slice none 0 0) rfl
 go_wp2_with fail
 clear hlD d14 f14
 obtain⟨wz,hwz⟩:∃ wz,wz=(w5.setCell ⟨w1.heap.size,14,none⟩ (.slice (some ⟨w5.heap.size,0,none⟩) 1 1)).alloc (.cells #[.string s5_0,.slice p5_1 n5_1 c5_1,.slice p5_2 n5_2 c5_2,.int .i64 i5_3] 138):=⟨_,rfl⟩
 have hfz:Fr [c.R,w1.heap.size] w5 wz:=by rw[hwz];exact frk
 have HIz:Hid (IR c s5 wz):=hid (by rw[hwz];exact HI5.out.f [w1.heap.size] H.out)
 have HFz:=hid (HF5.out.j hfz)
 have HDz:Hid (Blk wz (w1.heap.size) 52 #[.int .i64 6,.string ⟨x3.toArray⟩,zN,zN,zI,zS,zS,zS,zN,zI,zN,zI,zN,zN,.slice (some ⟨w5.heap.size,0,none⟩) 1 1,zN,.int .i64 x1]):=hid (by rw[hwz];exact(HD5.out.set 14 _).alloc _)
 have HBz:Hid (Blk wz (w.heap.size) 52 #[zI,zS,zN,zN,zI,zS,zS,zS,zN,zI,zN,zI,zN,zN,zN,zN,zI]):=hid (HB5.out.keep hfz (by first|(simp;done)|omega|(simp;omega)))
 have HLz:Hid (ListAt wz (w1.heap.size+1) 138 4 1 (rowsQ armQ [x5]) (.slice (some ⟨w5.heap.size,0,none⟩) 1 1)):=hid (by rw[rowsQ_one];exact ListAt.one (xs:=[.string s5_0,.slice p5_1 n5_1 c5_1,.slice p5_2 n5_2 c5_2,.int .i64 i5_3]) (by omega) (by rw[hwz];exact(Blk.new_at (by simp))) rfl (repk (N':=fun k=>w1.heap.size+1≤k∧k≠w5.heap.size) HV5B.out hfz (fun k hk hl=>by simp at hk hl ⊢;omega)))
 have hzz:w5.heap.size+1≤wz.heap.size:=by rw[hwz];simp
 rw[← hwz]
 clear hwz hfz
 go_loopw [] (fun wr=>∃ (acc:List ArmD) (s':RS) (pc:Option Addr) (cc:Nat),ListAt wr (w1.heap.size+1) 138 4 (acc.length+1) (rowsQ armQ (x5 :: acc)) (.slice pc (acc.length+1) cc)∧IR c s' wr∧Fr [c.R] w wr∧wz.heap.size≤wr.heap.size∧Blk wr (w1.heap.size) 52 #[.int .i64 6,.string ⟨x3.toArray⟩,zN,zN,zI,zS,zS,zS,zN,zI,zN,zI,zN,zN,.slice pc (acc.length+1) cc,zN,.int .i64 x1]∧Blk wr (w.heap.size) 52 #[zI,zS,zN,zN,zI,zS,zS,zS,zN,zI,zN,zI,zN,zN,zN,zN,zI]∧s'.mu≤s5.mu∧acc.length+s'.mu≤6002∧UJ c.size (Px.arm c.size (Px.stmtF c.size n m)) s5 acc s') (fun wr=>rMu c wr)
 case atStart=>exact⟨[],s5,_,_,HLz.out,HIz.out,HFz.out,Nat.le_refl _,HDz.out,HBz.out,(by first|(simp;done)|omega|(simp;omega)),by (try simp);have:=HIz.out.mu_le;omega,UJ.start⟩
 case round =>
  obtain⟨acc,s',pc,cc,hL,hi,hf,hzz,hD,hB,hle,hn,hJ⟩:=hrel
  have HL:=hid hL
  have HI2:=hid hi
  have HF:=hid hf
  have HDR:=hid hD
  have HBR:=hid hB
  have HJ:=hid hJ
  clear hL hi hf hD hB hJ
  cases s' with
  | dead er oo =>
   obtain⟨k,cap,ad,hb,ht,hk,he,hc⟩:=HI2.out.dcells
   have g3:=hb.cell 3
   simp at g3
   have hd:((er:Int) == 0)=false:=by simp;omega
   clear hb ht hk he hc
   go_wp2_with fail
   clear g3 hd
   have HRL:Hid (RowV wr (fun k=>w.heap.size≤k∧k≠w.heap.size∧k≠w1.heap.size) 138 4 (acc.length+1) (rowsQ armQ (x5 :: acc)) (.slice pc (acc.length+1) cc)):=hid (HL.out.row.mono (fun k hk hl=>⟨by simp at hk ⊢;omega,rfl⟩))
   refine(rneed_q c (RS.dead er oo) [125] _ (by exact HI2.out.f [w1.heap.size] H.out)).mono ?_
   rintro e w6 ⟨rfl,x6,s6,hq6,hf,hi⟩
   obtain⟨hT,HB6,HI6,HF6,hz6⟩:=IR.st [w1.heap.size] HBR.out HF.out hf hi
   try simp at hz6
   have HD6:=hid (HDR.out.k hf)
   have HRL_6:=hid (HRL.out.k (N':=(fun k=>w.heap.size≤k∧k≠w.heap.size∧k≠w1.heap.size)) hT)
   have hl6:=hq6.out.mu (Shr.expect _)
   clear hT hf hi
   have HLI:=hid (HJ.out.stop hq6.out (fun ts h=>by cases h))
   have hlD:=HD6.out.lt
   go_wp2_with (first|(refine wpList_load_row rfl 52 _ rfl (w1.heap.size) rfl 52 _ (0,0) _ HD6.out Tryz.underlying52 rfl rstmt_size ?_)|(refine wpList_store_row rfl 52 _ _ rfl (w.heap.size) _ rfl rfl 52 _ (HB6.out.row [w1.heap.size]) rstmt_size rfl (by simp[Value.oneCell']) ?_))
   refine bodyPost_ret (results_cell_row (p:=2) rfl _ _ (w.heap.size) 52 _ (0,0) _ rfl (setRow_heap _ _ _ _ _ _ (HB6.out.row [w1.heap.size])) Tryz.underlying52 rfl rstmt_size) rfl ?_
   clear hlD
   exact RD.mk (.mk 6 x3 [] [] Px.expr0 [] [] (x5 :: acc) [] x1) s6 (by refine Rel.bind hq1.out ?_;unfold refS;refine Rel.bn (no_word (fun ts e=>by cases e;rw[show Px.word (t :: r)=_ from ht];decide)) ?_;refine Rel.bn (no_word (fun ts e=>by cases e;rw[show Px.word (t :: r)=_ from ht];decide)) ?_;refine Rel.bn (no_word (fun ts e=>by cases e;rw[show Px.word (t :: r)=_ from ht];decide)) ?_;refine Rel.bn (no_word (fun ts e=>by cases e;rw[show Px.word (t :: r)=_ from ht];decide)) ?_;refine Rel.by (Rel.take_true (show ([[109,97,116,99,104]]:List Txt).contains t.text=true by rw[ht];decide)) ?_;unfold Px.matchS;refine .bind hq3.out<|.bind hq4.out ?_;refine .bind hq5.out<|.bind HLI.out ?_;exact Rel.pure _ _) (HF6.out.jf [w1.heap.size,w.heap.size]) (HI6.out.f [w1.heap.size,w.heap.size] H.out) ⟨_,rfl,(by rw[stmtQ_mk];unfold strsQ typesS stmtsS armsS funcsS;exact rep_int.2 ⟨_,rfl,rep_str.2 ⟨_,rfl,rep_sl.2 ⟨_,_,rfl,RowV.nil _ _ _ _,rep_sl.2 ⟨_,_,rfl,RowV.nil _ _ _ _,Rep.app (cs:=[.int .i64 0,.string ⟨#[]⟩,.string ⟨#[]⟩,.string ⟨#[]⟩,.slice none 0 0,.int .i64 0,.slice none 0 0,.int .i64 0]) (expr0_rep) (rep_sl.2 ⟨_,_,rfl,RowV.nil _ _ _ _,rep_sl.2 ⟨_,_,rfl,RowV.nil _ _ _ _,rep_sl.2 ⟨_,_,rfl,(HRL_6.out.f [w1.heap.size,w.heap.size]),rep_sl.2 ⟨_,_,rfl,RowV.nil _ _ _ _,rep_int.2 ⟨_,rfl,rep_nil.2 rfl⟩⟩⟩⟩⟩)⟩⟩⟩⟩)⟩
  | live ts =>
   obtain⟨k,cap,ad,hb,ht,hk,hts,hc⟩:=HI2.out.cells
   have g3:=hb.cell 3
   simp at g3
   clear hb ht hk hts hc
   go_wp2_with fail
   clear g3
   refine(ris_any c (RS.live ts) [125] _ (by exact HI2.out.f [w1.heap.size] H.out) (by decide) (by decide)).mono ?_
   rintro e w7 hp
   rcases hp.isw with ⟨hx7,hm7,rfl,hf,hi⟩|⟨hq7,rfl,hf,hi⟩
   ·clear hp
    have hfk7:=hid hf
    obtain⟨hT,HB7,HI7,HF7,hz7⟩:=IR.st [w1.heap.size] HBR.out HF.out hf hi
    try simp at hz7
    have HD7:=hid (HDR.out.k hf)
    clear hT hf hi
    have HLN:=hid (HL.out.keep hfk7.out (by simp;omega))
    go_wp2_with fail
    have HRL:Hid (RowV w7 (fun k=>w.heap.size≤k∧k≠w.heap.size∧k≠w1.heap.size) 138 4 (acc.length+1) (rowsQ armQ (x5 :: acc)) (.slice pc (acc.length+1) cc)):=hid (HLN.out.row.mono (fun k hk hl=>⟨by simp at hk ⊢;omega,rfl⟩))
    refine(rneed_q c (RS.live ts) [125] _ (by exact HI7.out.f [w1.heap.size] H.out)).mono ?_
    rintro e w8 ⟨rfl,x8,s8,hq8,hf,hi⟩
    obtain⟨hT,HB8,HI8,HF8,hz8⟩:=IR.st [w1.heap.size] HB7.out HF7.out hf hi
    try simp at hz8
    have HD8:=hid (HD7.out.k hf)
    have HRL_8:=hid (HRL.out.k (N':=(fun k=>w.heap.size≤k∧k≠w.heap.size∧k≠w1.heap.size)) hT)
    have hl8:=hq8.out.mu (Shr.expect _)
    clear hT hf hi
    have HLI:=hid (HJ.out.stop hq8.out hx7.out)
    have hlD:=HD8.out.lt
    go_wp2_with (first|(refine wpList_load_row rfl 52 _ rfl (w1.heap.size) rfl 52 _ (0,0) _ HD8.out Tryz.underlying52 rfl rstmt_size ?_)|(refine wpList_store_row rfl 52 _ _ rfl (w.heap.size) _ rfl rfl 52 _ (HB8.out.row [w1.heap.size]) rstmt_size rfl (by simp[Value.oneCell']) ?_))
    refine bodyPost_ret (results_cell_row (p:=2) rfl _ _ (w.heap.size) 52 _ (0,0) _ rfl (setRow_heap _ _ _ _ _ _ (HB8.out.row [w1.heap.size])) Tryz.underlying52 rfl rstmt_size) rfl ?_
    clear hlD
    exact RD.mk (.mk 6 x3 [] [] Px.expr0 [] [] (x5 :: acc) [] x1) s8 (by refine Rel.bind hq1.out ?_;unfold refS;refine Rel.bn (no_word (fun ts e=>by cases e;rw[show Px.word (t :: r)=_ from ht];decide)) ?_;refine Rel.bn (no_word (fun ts e=>by cases e;rw[show Px.word (t :: r)=_ from ht];decide)) ?_;refine Rel.bn (no_word (fun ts e=>by cases e;rw[show Px.word (t :: r)=_ from ht];decide)) ?_;refine Rel.bn (no_word (fun ts e=>by cases e;rw[show Px.word (t :: r)=_ from ht];decide)) ?_;refine Rel.by (Rel.take_true (show ([[109,97,116,99,104]]:List Txt).contains t.text=true by rw[ht];decide)) ?_;unfold Px.matchS;refine .bind hq3.out<|.bind hq4.out ?_;refine .bind hq5.out<|.bind HLI.out ?_;exact Rel.pure _ _) (HF8.out.jf [w1.heap.size,w.heap.size]) (HI8.out.f [w1.heap.size,w.heap.size] H.out) ⟨_,rfl,(by rw[stmtQ_mk];unfold strsQ typesS stmtsS armsS funcsS;exact rep_int.2 ⟨_,rfl,rep_str.2 ⟨_,rfl,rep_sl.2 ⟨_,_,rfl,RowV.nil _ _ _ _,rep_sl.2 ⟨_,_,rfl,RowV.nil _ _ _ _,Rep.app (cs:=[.int .i64 0,.string ⟨#[]⟩,.string ⟨#[]⟩,.string ⟨#[]⟩,.slice none 0 0,.int .i64 0,.slice none 0 0,.int .i64 0]) (expr0_rep) (rep_sl.2 ⟨_,_,rfl,RowV.nil _ _ _ _,rep_sl.2 ⟨_,_,rfl,RowV.nil _ _ _ _,rep_sl.2 ⟨_,_,rfl,(HRL_8.out.f [w1.heap.size,w.heap.size]),rep_sl.2 ⟨_,_,rfl,RowV.nil _ _ _ _,rep_int.2 ⟨_,rfl,rep_nil.2 rfl⟩⟩⟩⟩⟩)⟩⟩⟩⟩)⟩
   ·clear hp
    have hfk7:=hid hf
    obtain⟨hT,HB7,HI7,HF7,hz7⟩:=IR.st [w1.heap.size] HBR.out HF.out hf hi
    try simp at hz7
    have HD7:=hid (HDR.out.k hf)
    clear hT hf hi
    have HLN:=hid (HL.out.keep hfk7.out (by simp;omega))
    go_wp2_with fail
    have hne:(RS.live ts).mu≠0:=by simp[RS.mu]
    have hlD:=HD7.out.lt
    obtain⟨d14,f14⟩:=HD7.out.df 14 (v:=.slice pc (acc.length+1) cc) rfl
    have hbw:(w1.heap.size+1)≤w7.heap.size:=by omega
    have hRb:c.R<(w1.heap.size+1):=by omega
    go_region_law (first|(refine step_append_list _ (by rfl) _ _ 50 (by rfl) ((w1.heap.size+1)) 138 i0 _ 4 72 Tryz.underlying50 HINF.out iz0 iz1 iz2 rfl (by decide) (.slice pc (acc.length+1) cc) ((acc.length+1)) 1 (rowsQ armQ (x5 :: acc)) (armQ x9) (by rfl) G1.out ⟨w9.heap.size,0,none⟩ 1 [.string s9_0,.slice p9_1 n9_1 c9_1,.slice p9_2 n9_2 c9_2,.int .i64 i9_3] (by rfl) (by decide) rfl G2.out G3.out (by omega) (by decide) g4 ?_;intro p' c' w10 hL10 hg10;have hown:∀ k,(.slice pc (acc.length+1) cc:Value).ownBlock=some k→(w1.heap.size+1)≤k:=(fun k e=>(HLN.out.own k e).1);have HD10:=hid ((HD9.out.alloc _).grown hg10 (fun k e=>by have:=hown k e;omega));obtain⟨k10,m10⟩:=HD10.out.df 14 (v:=.slice pc (acc.length+1) cc) rfl;have HL10:=hid hL10;have HG10:=hid hg10;clear hL10 hg10)|(go_simp;go_at_call 121;refine(rarm_any c (RS.live ts) _ (by exact(HI7.out.f [] H.out)) _ _ HST.out (strict_stmtF c.size n m) (shr_stmtF c.size n m) (by omega)).mono ?_;rintro e w9 hp;obtain⟨v9,x9,s9,rfl,hq9,hf9,hi9,hv9⟩:=hp;have hx9:Fr [c.R] w7 w9:=Fr.trans frk hf9;obtain⟨cs,rfl,hrep0⟩:=hv9;have hrep:Rep w9 (fun k=>w7.heap.size≤k) (armQ x9) cs:=hrep0;obtain⟨s9_0,p9_1,n9_1,c9_1,p9_2,n9_2,c9_2,i9_3,rfl⟩:=hrep.c_armQ;have HD9:=hid (HD7.out.k hx9);have k9:=HD9.out.at 14 (v:=.slice pc (acc.length+1) cc) rfl;have hlx9:=HD9.out.lt;obtain⟨g1,g2,g3,g4⟩:=append_ready (news:=[.string s9_0,.slice p9_1 n9_1 c9_1,.slice p9_2 n9_2 c9_2,.int .i64 i9_3]) HLN.out (Nat.le_refl _) hx9 hRb hbw hrep 138;have G1:=hid g1;have G2:=hid g2;have G3:=hid g3;have HX9:=hid hx9;have HI9c:=hid hi9;have hh9:w7.heap.size≤w9.heap.size:=hx9.size;clear g1 g2 g3 hrep hx9 hi9 hf9))
    all_goals
     have hFG:FrB [c.R] ((w1.heap.size+1)) w7 w10:=frb_grown (HX9.out.alloc (.cells #[.string s9_0,.slice p9_1 n9_1 c9_1,.slice p9_2 n9_2 c9_2,.int .i64 i9_3] 138)) HG10.out hown
     have hz10:w7.heap.size≤w10.heap.size:=hFG.size
     have HI10:Hid (IR c s9 w10):=hid ((HI9c.out.alloc _).grown H.out HG10.out (fun k e=>by have:=hown k e;omega))
     have HB10:=hid (((HB7.out.k HX9.out).alloc _).grown HG10.out (fun k e=>by have:=hown k e;omega))
     have HF10:Hid (Fr [c.R] w w10):=hid (HF7.out.frb hFG (by omega))
     clear k10 m10 hFG
     have hle9:=hq9.out.strict (strict_arm _ (shr_stmtF c.size n m)) hne
     go_wp2_with fail
     go_roundw
     case rel=>exact⟨acc ++ [x9],s9,p',c',(by rw[← List.cons_append,List.length_append,rowsQ_snoc];exact HL10.out.keep (X:=[w1.heap.size]) frk (by first|(simp;done)|omega|(simp;omega))),HI10.out.f [w1.heap.size] H.out,(HF10.out.jf [w1.heap.size]),(by first|(simp;done)|omega|(simp;omega)),(by rw[List.length_append];exact HD10.out.set 14 _),HB10.out.f [w1.heap.size],by omega,by simp;omega,HJ.out.more (strict_arm _ (shr_stmtF c.size n m)) hq7.out hne hq9.out⟩
     case measure=>rw[IR.rMu (s:=s9) (HI10.out.f [w1.heap.size] H.out),HI2.out.rMu];omega
theorem stW_ne_nil:∀ i,i<12→([]:Txt)≠stW i:=by decide
theorem rstmt_step (c:RCtx) (n m:Nat) (s:RS) (w:World) (h:IR c s w) (hst:RL c 99 s.mu (okAgg stmtQ) (Px.stmtF c.size n m)) (hm:s.mu≤n) :
  Calls Tryz.prog 99 #[.pointer (some ⟨c.R,0,none⟩)] w (RD c w (okAgg stmtQ) (do let o ← Px.offsetR c.size;refS c.size n m o) s):=by
 cases s with
 | dead e o=>exact rstmt_set c (.dead e o) w h (fun i _ ts he=>by cases he) n m hst hm
 | live ts =>
  cases ts with
  | nil=>exact rstmt_set c (.live []) w h (fun i hi ts he=>by cases he;exact stW_ne_nil i hi) n m hst hm
  | cons t r =>
   by_cases h0:t.text=stW 0
   ·exact rstmt_let c t r w h h0 n m hst hm
   by_cases h1:t.text=stW 1
   ·exact rstmt_store c t r w h h1 n m hst hm
   by_cases h2:t.text=stW 2
   ·exact rstmt_if c t r w h h2 n m hst hm
   by_cases h3:t.text=stW 3
   ·exact rstmt_while c t r w h h3 n m hst hm
   by_cases h4:t.text=stW 4
   ·exact rstmt_match c t r w h h4 n m hst hm
   by_cases h5:t.text=stW 5
   ·exact rstmt_return c t r w h h5 n m hst hm
   by_cases h6:t.text=stW 6
   ·exact rstmt_panic c t r w h h6 n m hst hm
   by_cases h7:t.text=stW 7
   ·exact rstmt_drop c t r w h h7 n m hst hm
   by_cases h8:t.text=stW 8
   ·exact rstmt_print c t r w h h8 n m hst hm
   by_cases h9:t.text=stW 9
   ·exact rstmt_send c t r w h h9 n m hst hm
   by_cases h10:t.text=stW 10
   ·exact rstmt_spawn c t r w h h10 n m hst hm
   by_cases h11:t.text=stW 11
   ·exact rstmt_fn c t r w h h11 n m hst hm
   refine rstmt_set c (.live (t :: r)) w h (fun i hi ts he=>?_) n m hst hm
   cases he
   show t.text≠stW i
   intro hh
   have hd:i=0∨i=1∨i=2∨i=3∨i=4∨i=5∨i=6∨i=7∨i=8∨i=9∨i=10∨i=11:=by omega
   rcases hd with rfl|rfl|rfl|rfl|rfl|rfl|rfl|rfl|rfl|rfl|rfl|rfl
   ·exact h0 hh
   ·exact h1 hh
   ·exact h2 hh
   ·exact h3 hh
   ·exact h4 hh
   ·exact h5 hh
   ·exact h6 hh
   ·exact h7 hh
   ·exact h8 hh
   ·exact h9 hh
   ·exact h10 hh
   ·exact h11 hh
theorem rstmt_any (c:RCtx) (n:Nat):∀ (m:Nat) (s:RS) (w:World),IR c s w→s.mu≤m→s.mu≤n →
  Calls Tryz.prog 99 #[.pointer (some ⟨c.R,0,none⟩)] w (RD c w (okAgg stmtQ) (Px.stmtF c.size n m) s)
 | 0,s,w,h,hm,hn=>(rstmt_step c n 0 s w h (fun s' w' _ hl=>absurd hl (by omega)) hn).mono fun e w' hp=>hp.conv (fun a s' hr=>hr.dead (by omega))
 | m+1,s,w,h,hm,hn=>(rstmt_step c n m s w h (fun s' w' h' hl=>rstmt_any c n m s' w' h' (by omega) (by omega)) hn).mono fun e w' hp=>hp.conv (fun a s' hr=>hr.of_eq (refS_eq c.size n m))
theorem stmt_RL (c:RCtx) (n:Nat):RL c 99 (n+1) (okAgg stmtQ) (Px.stmtF c.size n n):=fun s w h hm=>rstmt_any c n n s w h (by omega) (by omega)
end Go.Proofs.YtghohohagbbajaaGreatDoor
