/- part of the proof -/
import Derived.Test.YtghohohagbbajaaGreatDoorYKC
import Derived.Test.YtghohohagbbajaaGreatDoorYK14
import Derived.Test.YtghohohagbbajaaGreatDoorYKH
set_option linter.unusedVariables false
set_option linter.unusedSimpArgs false
set_option linter.unusedSectionVars false
namespace Go.Proofs.YtghohohagbbajaaGreatDoor
open Go.RowKit Go.Lib
open Lx (Tk)
open Px (Txt TyE VarD DataD TraitD BoundD ImplD ArgD ExprD StmtD ArmD FuncD ModD)
def stW (i:Nat):Txt:=([[108,101,116],[42],[105,102],[119,104,105,108,101],[109,97,116,99,104],[114,101,116,117,114,110],[112,97,110,105,99],[100,114,111,112],[112,114,105,110,116],[115,101,110,100],[115,112,97,119,110],[102,110]]:List Txt).getD i []
theorem rat_same (c:RCtx) (s:RS) (w:World) (h:IR c s w) :
  Calls Tryz.prog 26 #[.pointer (some ⟨c.R,0,none⟩)] w fun e w'=>∃ n:Nat,e=.returned (.int .i64 n)∧Hid (Rel c.size (Px.offsetR c.size) s n s)∧Fr [c.R] w w'∧IR c s w':=by
 refine(rat_any c s w h).mono ?_
 rintro e w' ⟨v,a,s',rfl,hq,hf,hi,rfl⟩
 have hs:s'=s:=by
  have hq:=hq.out
  cases s with
  | dead er o=>exact hq
  | live ts=>cases ts <;> exact hq.2
 subst hs
 exact⟨a,rfl,hq,hf,hi⟩
theorem rnext_no (c:RCtx) (s:RS) (x:Txt) (w:World) (h:IR c s w) (hx:x∈Words) (hl:x.length≤20000) (hn:∀ ts,s=.live ts→Px.word ts≠x) :
  Calls Tryz.prog 25 #[.pointer (some ⟨c.R,0,none⟩),.string ⟨x.toArray⟩] w fun e w'=>e=.returned (.bool false)∧Fr [c.R] w w'∧IR c s w':=by
 refine(rnext_any c s x w h hx hl).mono ?_
 rintro e w' (⟨t,r,rfl,ht,_⟩|⟨rfl,_,hf,hi⟩)
 ·exact absurd ht (hn _ rfl)
 ·exact⟨rfl,hf,hi⟩
theorem rnext_yes (c:RCtx) (t:Tk) (r:List Tk) (x:Txt) (w:World) (h:IR c (.live (t :: r)) w) (ht:t.text=x) (hx:x∈Words) (hl:x.length≤20000) :
  Calls Tryz.prog 25 #[.pointer (some ⟨c.R,0,none⟩),.string ⟨x.toArray⟩] w fun e w'=>e=.returned (.bool true)∧Fr [c.R] w w'∧IR c (.live r) w':=by
 refine(rnext_any c _ x w h hx hl).mono ?_
 rintro e w' (⟨t',r',e',_,rfl,hf,hi⟩|⟨rfl,hn,_⟩)
 ·cases e'
  simp only[if_true] at hi
  exact⟨rfl,hf,hi⟩
 ·have:=hn _ rfl
  simp[Px.word,ht] at this
theorem no_word {sz:Nat} {s:RS} {x:Txt} (h:∀ ts,s=.live ts→Px.word ts≠x):Rel sz (Px.accept [x]) s false s :=
 Rel.take_false (fun ts e=>by have:=h ts e;simpa using this)
set_option maxRecDepth 100000 in
set_option maxHeartbeats 6400000 in
theorem rstmt_let (c:RCtx) (t:Tk) (r:List Tk) (w:World) (h:IR c (RS.live (t :: r)) w) (ht:t.text=[108,101,116]) (n m:Nat) (hst:RL c 99 (RS.mu (RS.live (t :: r))) (okAgg stmtQ) (Px.stmtF c.size n m)) (hm:(RS.mu (RS.live (t :: r)))≤n) :
  Calls Tryz.prog 99 #[.pointer (some ⟨c.R,0,none⟩)] w (RD c w (okAgg stmtQ) (do let o ← Px.offsetR c.size;refS c.size n m o) (RS.live (t :: r))):=by
 have HST:=hid hst
 clear hst
 have H:=hid h
 have HR0:=H.out.lt.1
 clear h
 go_enter Tryz.func99,Tryz.ntmps99
 go_wp2_with fail
 refine(rat_same c (RS.live (t :: r)) _ (by exact H.out.f [] H.out)).mono ?_
 rintro e w1 hp
 obtain⟨x1,rfl,hq1,hf,hi⟩:=hp
 have hT:Fr [c.R] w w1:=Fr.trans frk hf.wide
 have hz1:=hf.size;try simp at hz1
 have HB1:Hid (Blk w1 (w.heap.size) 52 #[zI,zS,zN,zN,zI,zS,zS,zS,zN,zI,zN,zI,zN,zN,zN,zN,zI]):=hid ((Blk.new w _ _).keep hf (by first|(simp;done)|omega|(simp;omega)))
 have HI1:=hid hi
 have HF1:=hid ((Fr.refl [c.R] w).j hT)
 clear hT hf hi
 have hneDB:w1.heap.size≠w.heap.size:=by omega
 have hneBD:=hneDB.symm
 go_wp2_with (refine wpList_store_row rfl 52 _ _ rfl (w1.heap.size) #[.int .i64 0,.string ⟨#[]⟩,.slice none 0 0,.slice none 0 0,.int .i64 0,.string ⟨#[]⟩,.string ⟨#[]⟩,.string ⟨#[]⟩,.slice none 0 0,.int .i64 0,.slice none 0 0,.int .i64 0,.slice none 0 0,.slice none 0 0,.slice none 0 0,.slice none 0 0,.int .i64 x1] rfl rfl 52 _ (Blk.new_at (by simp)) rstmt_size rfl (by simp[Value.oneCell']) ?_)
 refine(rnext_yes c t r [108,101,116] _ (by exact HI1.out.f [w1.heap.size] H.out) ht (by decide) (by decide)).mono ?_
 rintro e w2 ⟨rfl,hf0,hi⟩
 have hf:=hf0
 obtain⟨hT,HB2,HI2,HF2,hz2⟩:=IR.st [w1.heap.size] HB1.out HF1.out hf hi
 try simp at hz2
 have HD2:Hid (Blk w2 (w1.heap.size) 52 #[zI,zS,zN,zN,zI,zS,zS,zS,zN,zI,zN,zI,zN,zN,zN,zN,.int .i64 x1]):=hid ((show Blk _ (w1.heap.size) 52 #[zI,zS,zN,zN,zI,zS,zS,zS,zN,zI,zN,zI,zN,zN,zN,zN,.int .i64 x1] from setRow_heap _ _ _ _ _ _ (Blk.new_at (by simp))).k hf)
 clear hT hf hi hf0
 have hlr:(RS.live r).mu<(RS.live (t :: r)).mu:=by simp[RS.mu]
 have hlD:=HD2.out.lt
 obtain⟨d0,f0⟩:=HD2.out.df 0 (v:=.int .i64 0) rfl
 go_wp2_with fail
 clear hlD d0 f0
 refine(rname_any c (RS.live r) _ (by exact HI2.out.f [w1.heap.size] H.out)).mono ?_
 rintro e w3 ⟨_,x3,s3,rfl,hq3,hf,hi,rfl⟩
 obtain⟨hT,HB3,HI3,HF3,hz3⟩:=IR.st [w1.heap.size] HB2.out HF2.out hf hi
 try simp at hz3
 have HD3:Hid (Blk w3 (w1.heap.size) 52 #[.int .i64 1,zS,zN,zN,zI,zS,zS,zS,zN,zI,zN,zI,zN,zN,zN,zN,.int .i64 x1]):=hid ((HD2.out.set 0 (.int .i64 1)).k hf)
 have hl3:=hq3.out.mu Shr.name
 clear hT hf hi
 have hlD:=HD3.out.lt
 obtain⟨d1,f1⟩:=HD3.out.df 1 (v:=.string ⟨#[]⟩) rfl
 go_wp2_with fail
 clear hlD d1 f1
 refine(rnext_q c s3 [58] _ (by exact HI3.out.f [w1.heap.size] H.out)).mono ?_
 rintro e w4 (⟨s4,hq4,hl4,rfl,hf,hi⟩|⟨hq4,rfl,hf,hi⟩)
 ·skip
  obtain⟨hT,HB4,HI4,HF4,hz4⟩:=IR.st [w1.heap.size] HB3.out HF3.out hf hi
  try simp at hz4
  have HD4:Hid (Blk w4 (w1.heap.size) 52 #[.int .i64 1,.string ⟨x3.toArray⟩,zN,zN,zI,zS,zS,zS,zN,zI,zN,zI,zN,zN,zN,zN,.int .i64 x1]):=hid ((HD3.out.set 1 (.string ⟨x3.toArray⟩)).k hf)
  clear hT hf hi
  have hlD:=HD4.out.lt
  go_wp2_with fail
  clear hlD
  refine(rtyped_any c n n s4 _ (by exact HI4.out.f [w1.heap.size] H.out) (by omega) (by omega)).mono ?_
  rintro e w5 ⟨v5,x5,s5,rfl,hq5,hf,hi,hv⟩
  obtain⟨cs,rfl,hrep⟩:=hv
  obtain⟨s5_0,p5_1,n5_1,c5_1,i5_2,rfl⟩:=hrep.c_typeQ
  have hV5:=hrep.k (N':=(fun k=>w.heap.size≤k∧k≠w.heap.size∧k≠w1.heap.size)) (Fr.refl [] _)
  obtain⟨hT,HB5,HI5,HF5,hz5⟩:=IR.st [w1.heap.size] HB4.out HF4.out hf hi
  try simp at hz5
  have HD5:=hid (HD4.out.k hf)
  have HV5:=hid hV5
  have hl5:=hq5.out.mu (shr_typeF _ _)
  clear hT hf hi hV5 hrep
  have hlD:=HD5.out.lt
  obtain⟨d3,f3⟩:=HD5.out.df 3 (v:=.slice none 0 0) rfl
  go_wp2_with fail
  clear hlD d3 f3
  refine(rneed_q c s5 [61] _ (by exact HI5.out.f [w1.heap.size] H.out)).mono ?_
  rintro e w6 ⟨rfl,x6,s6,hq6,hf,hi⟩
  obtain⟨hT,HB6,HI6,HF6,hz6⟩:=IR.st [w1.heap.size] HB5.out HF5.out hf hi
  try simp at hz6
  have HD6:Hid (Blk w6 (w1.heap.size) 52 #[.int .i64 1,.string ⟨x3.toArray⟩,zN,.slice (some ⟨w5.heap.size,0,none⟩) 1 1,zI,zS,zS,zS,zN,zI,zN,zI,zN,zN,zN,zN,.int .i64 x1]):=hid ((Blk.alloc (HD5.out.set 3 (.slice (some ⟨w5.heap.size,0,none⟩) 1 1)) _).k hf)
  have hN:Blk w6 (w5.heap.size) 39 #[.string s5_0,.slice p5_1 n5_1 c5_1,.int .i64 i5_2]:=Blk.keep (by repeat' (first|with_reducible refine Blk.new_at ?_|with_reducible refine Blk.alloc ?_ _|with_reducible refine Blk.other ?_ ?_ _|with_reducible refine Blk.setRow_other ?_ ?_|(simp;done)|(simp;omega))) hf (by simp;omega)
  have hNr:=rowk_one (N:=(fun k=>w.heap.size≤k∧k≠w.heap.size∧k≠w1.heap.size)) (f:=typeQ) (a:=x5) hN (by (try simp);omega) rfl (repk HV5.out hT (fun k hk hl=>by simp at hk hl ⊢;omega))
  have HN5_6:=hid hNr
  clear hN hNr
  have HV5_6:=hid (HV5.out.ks hT)
  have hl6:=hq6.out.mu (Shr.expect _)
  clear hT hf hi
  have hlD:=HD6.out.lt
  go_wp2_with fail
  clear hlD
  refine(rexpr_any c s6 _ (by exact HI6.out.f [w1.heap.size] H.out) n (by omega)).mono ?_
  rintro e w7 ⟨v7,x7,s7,rfl,hq7,hf,hi,hv⟩
  obtain⟨cs,rfl,hrep⟩:=hv
  obtain⟨i7_0,s7_1,s7_2,s7_3,p7_4,n7_4,c7_4,i7_5,p7_6,n7_6,c7_6,i7_7,rfl⟩:=hrep.c_exprQ
  have hV7:=hrep.k (N':=(fun k=>w.heap.size≤k∧k≠w.heap.size∧k≠w1.heap.size)) (Fr.refl [] _)
  obtain⟨hT,HB7,HI7,HF7,hz7⟩:=IR.st [w1.heap.size] HB6.out HF6.out hf hi
  try simp at hz7
  have HD7:=hid (HD6.out.k hf)
  have HV5_7:=hid (HV5_6.out.ks hT)
  have HN5_7:=hid (HN5_6.out.k (N':=(fun k=>w.heap.size≤k∧k≠w.heap.size∧k≠w1.heap.size)) hT)
  have HV7:=hid hV7
  have hl7:=hq7.out.mu (shr_expr _ _)
  clear hT hf hi hV7 hrep
  have hlD:=HD7.out.lt
  obtain⟨d4,f4⟩:=HD7.out.df 4 (v:=.int .i64 0) rfl
  obtain⟨d5,f5⟩:=HD7.out.df 5 (v:=.string ⟨#[]⟩) rfl
  obtain⟨d6,f6⟩:=HD7.out.df 6 (v:=.string ⟨#[]⟩) rfl
  obtain⟨d7,f7⟩:=HD7.out.df 7 (v:=.string ⟨#[]⟩) rfl
  obtain⟨d8,f8⟩:=HD7.out.df 8 (v:=.slice none 0 0) rfl
  obtain⟨d9,f9⟩:=HD7.out.df 9 (v:=.int .i64 0) rfl
  obtain⟨d10,f10⟩:=HD7.out.df 10 (v:=.slice none 0 0) rfl
  obtain⟨d11,f11⟩:=HD7.out.df 11 (v:=.int .i64 0) rfl
  go_wp2_with fail
  clear hlD d4 f4 d5 f5 d6 f6 d7 f7 d8 f8 d9 f9 d10 f10 d11 f11
  refine(rneed_q c s7 [59] _ (by exact HI7.out.f [w1.heap.size] H.out)).mono ?_
  rintro e w8 ⟨rfl,x8,s8,hq8,hf,hi⟩
  obtain⟨hT,HB8,HI8,HF8,hz8⟩:=IR.st [w1.heap.size] HB7.out HF7.out hf hi
  try simp at hz8
  have hS0:Blk _ (w1.heap.size) 52 #[.int .i64 1,.string ⟨x3.toArray⟩,zN,.slice (some ⟨w5.heap.size,0,none⟩) 1 1,.int .i64 i7_0,zS,zS,zS,zN,zI,zN,zI,zN,zN,zN,zN,.int .i64 x1]:=HD7.out.set 4 (.int .i64 i7_0)
  have hS1:Blk _ (w1.heap.size) 52 #[.int .i64 1,.string ⟨x3.toArray⟩,zN,.slice (some ⟨w5.heap.size,0,none⟩) 1 1,.int .i64 i7_0,.string s7_1,zS,zS,zN,zI,zN,zI,zN,zN,zN,zN,.int .i64 x1]:=hS0.set 5 (.string s7_1)
  have hS2:Blk _ (w1.heap.size) 52 #[.int .i64 1,.string ⟨x3.toArray⟩,zN,.slice (some ⟨w5.heap.size,0,none⟩) 1 1,.int .i64 i7_0,.string s7_1,.string s7_2,zS,zN,zI,zN,zI,zN,zN,zN,zN,.int .i64 x1]:=hS1.set 6 (.string s7_2)
  have hS3:Blk _ (w1.heap.size) 52 #[.int .i64 1,.string ⟨x3.toArray⟩,zN,.slice (some ⟨w5.heap.size,0,none⟩) 1 1,.int .i64 i7_0,.string s7_1,.string s7_2,.string s7_3,zN,zI,zN,zI,zN,zN,zN,zN,.int .i64 x1]:=hS2.set 7 (.string s7_3)
  have hS4:Blk _ (w1.heap.size) 52 #[.int .i64 1,.string ⟨x3.toArray⟩,zN,.slice (some ⟨w5.heap.size,0,none⟩) 1 1,.int .i64 i7_0,.string s7_1,.string s7_2,.string s7_3,.slice p7_4 n7_4 c7_4,zI,zN,zI,zN,zN,zN,zN,.int .i64 x1]:=hS3.set 8 (.slice p7_4 n7_4 c7_4)
  have hS5:Blk _ (w1.heap.size) 52 #[.int .i64 1,.string ⟨x3.toArray⟩,zN,.slice (some ⟨w5.heap.size,0,none⟩) 1 1,.int .i64 i7_0,.string s7_1,.string s7_2,.string s7_3,.slice p7_4 n7_4 c7_4,.int .i64 i7_5,zN,zI,zN,zN,zN,zN,.int .i64 x1]:=hS4.set 9 (.int .i64 i7_5)
  have hS6:Blk _ (w1.heap.size) 52 #[.int .i64 1,.string ⟨x3.toArray⟩,zN,.slice (some ⟨w5.heap.size,0,none⟩) 1 1,.int .i64 i7_0,.string s7_1,.string s7_2,.string s7_3,.slice p7_4 n7_4 c7_4,.int .i64 i7_5,.slice p7_6 n7_6 c7_6,zI,zN,zN,zN,zN,.int .i64 x1]:=hS5.set 10 (.slice p7_6 n7_6 c7_6)
  have hS7:Blk _ (w1.heap.size) 52 #[.int .i64 1,.string ⟨x3.toArray⟩,zN,.slice (some ⟨w5.heap.size,0,none⟩) 1 1,.int .i64 i7_0,.string s7_1,.string s7_2,.string s7_3,.slice p7_4 n7_4 c7_4,.int .i64 i7_5,.slice p7_6 n7_6 c7_6,.int .i64 i7_7,zN,zN,zN,zN,.int .i64 x1]:=hS6.set 11 (.int .i64 i7_7)
  have HD8:Hid (Blk w8 (w1.heap.size) 52 #[.int .i64 1,.string ⟨x3.toArray⟩,zN,.slice (some ⟨w5.heap.size,0,none⟩) 1 1,.int .i64 i7_0,.string s7_1,.string s7_2,.string s7_3,.slice p7_4 n7_4 c7_4,.int .i64 i7_5,.slice p7_6 n7_6 c7_6,.int .i64 i7_7,zN,zN,zN,zN,.int .i64 x1]):=hid (hS7.k hf)
  clear hS0 hS1 hS2 hS3 hS4 hS5 hS6 hS7
  have HV5_8:=hid (HV5_7.out.ks hT)
  have HN5_8:=hid (HN5_7.out.ks hT)
  have HV7_8:=hid (HV7.out.ks hT)
  have hl8:=hq8.out.mu (Shr.expect _)
  clear hT hf hi
  have hlD:=HD8.out.lt
  go_wp2_with (first|(refine wpList_load_row rfl 52 _ rfl (w1.heap.size) rfl 52 _ (0,0) _ HD8.out Tryz.underlying52 rfl rstmt_size ?_)|(refine wpList_store_row rfl 52 _ _ rfl (w.heap.size) _ rfl rfl 52 _ (HB8.out.row [w1.heap.size]) rstmt_size rfl (by simp[Value.oneCell']) ?_))
  refine bodyPost_ret (results_cell_row (p:=2) rfl _ _ (w.heap.size) 52 _ (0,0) _ rfl (setRow_heap _ _ _ _ _ _ (HB8.out.row [w1.heap.size])) Tryz.underlying52 rfl rstmt_size) rfl ?_
  clear hlD
  exact RD.mk (.mk 1 x3 [] [x5] x7 [] [] [] [] x1) s8 (by refine Rel.bind hq1.out ?_;unfold refS;refine Rel.by (Rel.take_true (show ([[108,101,116]]:List Txt).contains t.text=true by rw[ht];decide)) ?_;unfold Px.letS;refine .bind hq3.out<|.by hq4.out ?_;refine .bind hq5.out<|.bind hq6.out ?_;refine .bind hq7.out<|.bind hq8.out ?_;exact Rel.pure _ _) (HF8.out.jf [w1.heap.size,w.heap.size]) (HI8.out.f [w1.heap.size,w.heap.size] H.out) ⟨_,rfl,(by rw[stmtQ_mk];unfold strsQ typesS stmtsS armsS funcsS;exact rep_int.2 ⟨_,rfl,rep_str.2 ⟨_,rfl,rep_sl.2 ⟨_,_,rfl,RowV.nil _ _ _ _,rep_sl.2 ⟨_,_,rfl,(HN5_8.out.f [w1.heap.size,w.heap.size]),Rep.app (cs:=[.int .i64 i7_0,.string s7_1,.string s7_2,.string s7_3,.slice p7_4 n7_4 c7_4,.int .i64 i7_5,.slice p7_6 n7_6 c7_6,.int .i64 i7_7]) (HV7_8.out.f [w1.heap.size,w.heap.size]) (rep_sl.2 ⟨_,_,rfl,RowV.nil _ _ _ _,rep_sl.2 ⟨_,_,rfl,RowV.nil _ _ _ _,rep_sl.2 ⟨_,_,rfl,RowV.nil _ _ _ _,rep_sl.2 ⟨_,_,rfl,RowV.nil _ _ _ _,rep_int.2 ⟨_,rfl,rep_nil.2 rfl⟩⟩⟩⟩⟩)⟩⟩⟩⟩)⟩
 ·skip
  obtain⟨hT,HB4,HI4,HF4,hz4⟩:=IR.st [w1.heap.size] HB3.out HF3.out hf hi
  try simp at hz4
  have HD4:Hid (Blk w4 (w1.heap.size) 52 #[.int .i64 1,.string ⟨x3.toArray⟩,zN,zN,zI,zS,zS,zS,zN,zI,zN,zI,zN,zN,zN,zN,.int .i64 x1]):=hid ((HD3.out.set 1 (.string ⟨x3.toArray⟩)).k hf)
  clear hT hf hi
  have hlD:=HD4.out.lt
  go_wp2_with fail
  clear hlD
  refine(rneed_q c s3 [61] _ (by exact HI4.out.f [w1.heap.size] H.out)).mono ?_
  rintro e w9 ⟨rfl,x9,s9,hq9,hf,hi⟩
  obtain⟨hT,HB9,HI9,HF9,hz9⟩:=IR.st [w1.heap.size] HB4.out HF4.out hf hi
  try simp at hz9
  have HD9:=hid (HD4.out.k hf)
  have hl9:=hq9.out.mu (Shr.expect _)
  clear hT hf hi
  have hlD:=HD9.out.lt
  go_wp2_with fail
  clear hlD
  refine(rexpr_any c s9 _ (by exact HI9.out.f [w1.heap.size] H.out) n (by omega)).mono ?_
  rintro e w10 ⟨v10,x10,s10,rfl,hq10,hf,hi,hv⟩
  obtain⟨cs,rfl,hrep⟩:=hv
  obtain⟨i10_0,s10_1,s10_2,s10_3,p10_4,n10_4,c10_4,i10_5,p10_6,n10_6,c10_6,i10_7,rfl⟩:=hrep.c_exprQ
  have hV10:=hrep.k (N':=(fun k=>w.heap.size≤k∧k≠w.heap.size∧k≠w1.heap.size)) (Fr.refl [] _)
  obtain⟨hT,HB10,HI10,HF10,hz10⟩:=IR.st [w1.heap.size] HB9.out HF9.out hf hi
  try simp at hz10
  have HD10:=hid (HD9.out.k hf)
  have HV10:=hid hV10
  have hl10:=hq10.out.mu (shr_expr _ _)
  clear hT hf hi hV10 hrep
  have hlD:=HD10.out.lt
  obtain⟨d4,f4⟩:=HD10.out.df 4 (v:=.int .i64 0) rfl
  obtain⟨d5,f5⟩:=HD10.out.df 5 (v:=.string ⟨#[]⟩) rfl
  obtain⟨d6,f6⟩:=HD10.out.df 6 (v:=.string ⟨#[]⟩) rfl
  obtain⟨d7,f7⟩:=HD10.out.df 7 (v:=.string ⟨#[]⟩) rfl
  obtain⟨d8,f8⟩:=HD10.out.df 8 (v:=.slice none 0 0) rfl
  obtain⟨d9,f9⟩:=HD10.out.df 9 (v:=.int .i64 0) rfl
  obtain⟨d10,f10⟩:=HD10.out.df 10 (v:=.slice none 0 0) rfl
  obtain⟨d11,f11⟩:=HD10.out.df 11 (v:=.int .i64 0) rfl
  go_wp2_with fail
  clear hlD d4 f4 d5 f5 d6 f6 d7 f7 d8 f8 d9 f9 d10 f10 d11 f11
  refine(rneed_q c s10 [59] _ (by exact HI10.out.f [w1.heap.size] H.out)).mono ?_
  rintro e w11 ⟨rfl,x11,s11,hq11,hf,hi⟩
  obtain⟨hT,HB11,HI11,HF11,hz11⟩:=IR.st [w1.heap.size] HB10.out HF10.out hf hi
  try simp at hz11
  have hS0:Blk _ (w1.heap.size) 52 #[.int .i64 1,.string ⟨x3.toArray⟩,zN,zN,.int .i64 i10_0,zS,zS,zS,zN,zI,zN,zI,zN,zN,zN,zN,.int .i64 x1]:=HD10.out.set 4 (.int .i64 i10_0)
  have hS1:Blk _ (w1.heap.size) 52 #[.int .i64 1,.string ⟨x3.toArray⟩,zN,zN,.int .i64 i10_0,.string s10_1,zS,zS,zN,zI,zN,zI,zN,zN,zN,zN,.int .i64 x1]:=hS0.set 5 (.string s10_1)
  have hS2:Blk _ (w1.heap.size) 52 #[.int .i64 1,.string ⟨x3.toArray⟩,zN,zN,.int .i64 i10_0,.string s10_1,.string s10_2,zS,zN,zI,zN,zI,zN,zN,zN,zN,.int .i64 x1]:=hS1.set 6 (.string s10_2)
  have hS3:Blk _ (w1.heap.size) 52 #[.int .i64 1,.string ⟨x3.toArray⟩,zN,zN,.int .i64 i10_0,.string s10_1,.string s10_2,.string s10_3,zN,zI,zN,zI,zN,zN,zN,zN,.int .i64 x1]:=hS2.set 7 (.string s10_3)
  have hS4:Blk _ (w1.heap.size) 52 #[.int .i64 1,.string ⟨x3.toArray⟩,zN,zN,.int .i64 i10_0,.string s10_1,.string s10_2,.string s10_3,.slice p10_4 n10_4 c10_4,zI,zN,zI,zN,zN,zN,zN,.int .i64 x1]:=hS3.set 8 (.slice p10_4 n10_4 c10_4)
  have hS5:Blk _ (w1.heap.size) 52 #[.int .i64 1,.string ⟨x3.toArray⟩,zN,zN,.int .i64 i10_0,.string s10_1,.string s10_2,.string s10_3,.slice p10_4 n10_4 c10_4,.int .i64 i10_5,zN,zI,zN,zN,zN,zN,.int .i64 x1]:=hS4.set 9 (.int .i64 i10_5)
  have hS6:Blk _ (w1.heap.size) 52 #[.int .i64 1,.string ⟨x3.toArray⟩,zN,zN,.int .i64 i10_0,.string s10_1,.string s10_2,.string s10_3,.slice p10_4 n10_4 c10_4,.int .i64 i10_5,.slice p10_6 n10_6 c10_6,zI,zN,zN,zN,zN,.int .i64 x1]:=hS5.set 10 (.slice p10_6 n10_6 c10_6)
  have hS7:Blk _ (w1.heap.size) 52 #[.int .i64 1,.string ⟨x3.toArray⟩,zN,zN,.int .i64 i10_0,.string s10_1,.string s10_2,.string s10_3,.slice p10_4 n10_4 c10_4,.int .i64 i10_5,.slice p10_6 n10_6 c10_6,.int .i64 i10_7,zN,zN,zN,zN,.int .i64 x1]:=hS6.set 11 (.int .i64 i10_7)
  have HD11:Hid (Blk w11 (w1.heap.size) 52 #[.int .i64 1,.string ⟨x3.toArray⟩,zN,zN,.int .i64 i10_0,.string s10_1,.string s10_2,.string s10_3,.slice p10_4 n10_4 c10_4,.int .i64 i10_5,.slice p10_6 n10_6 c10_6,.int .i64 i10_7,zN,zN,zN,zN,.int .i64 x1]):=hid (hS7.k hf)
  clear hS0 hS1 hS2 hS3 hS4 hS5 hS6 hS7
  have HV10_11:=hid (HV10.out.ks hT)
  have hl11:=hq11.out.mu (Shr.expect _)
  clear hT hf hi
  have hlD:=HD11.out.lt
  go_wp2_with (first|(refine wpList_load_row rfl 52 _ rfl (w1.heap.size) rfl 52 _ (0,0) _ HD11.out Tryz.underlying52 rfl rstmt_size ?_)|(refine wpList_store_row rfl 52 _ _ rfl (w.heap.size) _ rfl rfl 52 _ (HB11.out.row [w1.heap.size]) rstmt_size rfl (by simp[Value.oneCell']) ?_))
  refine bodyPost_ret (results_cell_row (p:=2) rfl _ _ (w.heap.size) 52 _ (0,0) _ rfl (setRow_heap _ _ _ _ _ _ (HB11.out.row [w1.heap.size])) Tryz.underlying52 rfl rstmt_size) rfl ?_
  clear hlD
  exact RD.mk (.mk 1 x3 [] [] x10 [] [] [] [] x1) s11 (by refine Rel.bind hq1.out ?_;unfold refS;refine Rel.by (Rel.take_true (show ([[108,101,116]]:List Txt).contains t.text=true by rw[ht];decide)) ?_;unfold Px.letS;refine .bind hq3.out<|.bn hq4.out ?_;refine .bind hq9.out<|.bind hq10.out<|.bind hq11.out ?_;exact Rel.pure _ _) (HF11.out.jf [w1.heap.size,w.heap.size]) (HI11.out.f [w1.heap.size,w.heap.size] H.out) ⟨_,rfl,(by rw[stmtQ_mk];unfold strsQ typesS stmtsS armsS funcsS;exact rep_int.2 ⟨_,rfl,rep_str.2 ⟨_,rfl,rep_sl.2 ⟨_,_,rfl,RowV.nil _ _ _ _,rep_sl.2 ⟨_,_,rfl,RowV.nil _ _ _ _,Rep.app (cs:=[.int .i64 i10_0,.string s10_1,.string s10_2,.string s10_3,.slice p10_4 n10_4 c10_4,.int .i64 i10_5,.slice p10_6 n10_6 c10_6,.int .i64 i10_7]) (HV10_11.out.f [w1.heap.size,w.heap.size]) (rep_sl.2 ⟨_,_,rfl,RowV.nil _ _ _ _,rep_sl.2 ⟨_,_,rfl,RowV.nil _ _ _ _,rep_sl.2 ⟨_,_,rfl,RowV.nil _ _ _ _,rep_sl.2 ⟨_,_,rfl,RowV.nil _ _ _ _,rep_int.2 ⟨_,rfl,rep_nil.2 rfl⟩⟩⟩⟩⟩)⟩⟩⟩⟩)⟩
set_option maxRecDepth 100000 in
set_option maxHeartbeats 6400000 in
theorem rstmt_store (c:RCtx) (t:Tk) (r:List Tk) (w:World) (h:IR c (RS.live (t :: r)) w) (ht:t.text=[42]) (n m:Nat) (hst:RL c 99 (RS.mu (RS.live (t :: r))) (okAgg stmtQ) (Px.stmtF c.size n m)) (hm:(RS.mu (RS.live (t :: r)))≤n) :
  Calls Tryz.prog 99 #[.pointer (some ⟨c.R,0,none⟩)] w (RD c w (okAgg stmtQ) (do let o ← Px.offsetR c.size;refS c.size n m o) (RS.live (t :: r))):=by
 have HST:=hid hst
 clear hst
 have H:=hid h
 have HR0:=H.out.lt.1
 clear h
 go_enter Tryz.func99,Tryz.ntmps99
 go_wp2_with fail
 refine(rat_same c (RS.live (t :: r)) _ (by exact H.out.f [] H.out)).mono ?_
 rintro e w1 hp
 obtain⟨x1,rfl,hq1,hf,hi⟩:=hp
 have hT:Fr [c.R] w w1:=Fr.trans frk hf.wide
 have hz1:=hf.size;try simp at hz1
 have HB1:Hid (Blk w1 (w.heap.size) 52 #[zI,zS,zN,zN,zI,zS,zS,zS,zN,zI,zN,zI,zN,zN,zN,zN,zI]):=hid ((Blk.new w _ _).keep hf (by first|(simp;done)|omega|(simp;omega)))
 have HI1:=hid hi
 have HF1:=hid ((Fr.refl [c.R] w).j hT)
 clear hT hf hi
 have hneDB:w1.heap.size≠w.heap.size:=by omega
 have hneBD:=hneDB.symm
 go_wp2_with (refine wpList_store_row rfl 52 _ _ rfl (w1.heap.size) #[.int .i64 0,.string ⟨#[]⟩,.slice none 0 0,.slice none 0 0,.int .i64 0,.string ⟨#[]⟩,.string ⟨#[]⟩,.string ⟨#[]⟩,.slice none 0 0,.int .i64 0,.slice none 0 0,.int .i64 0,.slice none 0 0,.slice none 0 0,.slice none 0 0,.slice none 0 0,.int .i64 x1] rfl rfl 52 _ (Blk.new_at (by simp)) rstmt_size rfl (by simp[Value.oneCell']) ?_)
 refine(rnext_no c (RS.live (t :: r)) [108,101,116] _ (by exact HI1.out.f [w1.heap.size] H.out) (by decide) (by decide) (fun ts e=>by cases e;rw[show Px.word (t :: r)=_ from ht];decide)).mono ?_
 rintro e wj0 ⟨rfl,hf,hi⟩
 have HG0:=hid hf
 have HJ0:=hid hi
 clear hf hi
 go_wp2_with fail
 refine(rnext_yes c t r [42] _ HJ0.out ht (by decide) (by decide)).mono ?_
 rintro e w2 ⟨rfl,hf0,hi⟩
 have hf:=HG0.out.trans hf0
 obtain⟨hT,HB2,HI2,HF2,hz2⟩:=IR.st [w1.heap.size] HB1.out HF1.out hf hi
 try simp at hz2
 have HD2:Hid (Blk w2 (w1.heap.size) 52 #[zI,zS,zN,zN,zI,zS,zS,zS,zN,zI,zN,zI,zN,zN,zN,zN,.int .i64 x1]):=hid ((show Blk _ (w1.heap.size) 52 #[zI,zS,zN,zN,zI,zS,zS,zS,zN,zI,zN,zI,zN,zN,zN,zN,.int .i64 x1] from setRow_heap _ _ _ _ _ _ (Blk.new_at (by simp))).k hf)
 clear hT hf hi hf0
 have hlr:(RS.live r).mu<(RS.live (t :: r)).mu:=by simp[RS.mu]
 have hlD:=HD2.out.lt
 obtain⟨d0,f0⟩:=HD2.out.df 0 (v:=.int .i64 0) rfl
 go_wp2_with fail
 clear hlD d0 f0
 refine(rname_any c (RS.live r) _ (by exact HI2.out.f [w1.heap.size] H.out)).mono ?_
 rintro e w3 ⟨_,x3,s3,rfl,hq3,hf,hi,rfl⟩
 obtain⟨hT,HB3,HI3,HF3,hz3⟩:=IR.st [w1.heap.size] HB2.out HF2.out hf hi
 try simp at hz3
 have HD3:Hid (Blk w3 (w1.heap.size) 52 #[.int .i64 3,zS,zN,zN,zI,zS,zS,zS,zN,zI,zN,zI,zN,zN,zN,zN,.int .i64 x1]):=hid ((HD2.out.set 0 (.int .i64 3)).k hf)
 have hl3:=hq3.out.mu Shr.name
 clear hT hf hi
 have hlD:=HD3.out.lt
 obtain⟨d1,f1⟩:=HD3.out.df 1 (v:=.string ⟨#[]⟩) rfl
 go_wp2_with fail
 clear hlD d1 f1
 refine(rneed_q c s3 [61] _ (by exact HI3.out.f [w1.heap.size] H.out)).mono ?_
 rintro e w4 ⟨rfl,x4,s4,hq4,hf,hi⟩
 obtain⟨hT,HB4,HI4,HF4,hz4⟩:=IR.st [w1.heap.size] HB3.out HF3.out hf hi
 try simp at hz4
 have HD4:Hid (Blk w4 (w1.heap.size) 52 #[.int .i64 3,.string ⟨x3.toArray⟩,zN,zN,zI,zS,zS,zS,zN,zI,zN,zI,zN,zN,zN,zN,.int .i64 x1]):=hid ((HD3.out.set 1 (.string ⟨x3.toArray⟩)).k hf)
 have hl4:=hq4.out.mu (Shr.expect _)
 clear hT hf hi
 have hlD:=HD4.out.lt
 go_wp2_with fail
 clear hlD
 refine(rname_any c s4 _ (by exact HI4.out.f [w1.heap.size] H.out)).mono ?_
 rintro e w5 ⟨_,x5,s5,rfl,hq5,hf,hi,rfl⟩
 obtain⟨hT,HB5,HI5,HF5,hz5⟩:=IR.st [w1.heap.size] HB4.out HF4.out hf hi
 try simp at hz5
 have HD5:=hid (HD4.out.k hf)
 have hl5:=hq5.out.mu Shr.name
 clear hT hf hi
 have hlD:=HD5.out.lt
 obtain⟨d2,f2⟩:=HD5.out.df 2 (v:=.slice none 0 0) rfl
 go_wp2_with fail
 clear hlD d2 f2
 refine(rneed_q c s5 [59] _ (by exact HI5.out.f [w1.heap.size] H.out)).mono ?_
 rintro e w6 ⟨rfl,x6,s6,hq6,hf,hi⟩
 obtain⟨hT,HB6,HI6,HF6,hz6⟩:=IR.st [w1.heap.size] HB5.out HF5.out hf hi
 try simp at hz6
 have HD6:Hid (Blk w6 (w1.heap.size) 52 #[.int .i64 3,.string ⟨x3.toArray⟩,.slice (some ⟨w5.heap.size,0,none⟩) 1 1,zN,zI,zS,zS,zS,zN,zI,zN,zI,zN,zN,zN,zN,.int .i64 x1]):=hid ((Blk.alloc (HD5.out.set 2 (.slice (some ⟨w5.heap.size,0,none⟩) 1 1)) _).k hf)
 have hN:Blk w6 (w5.heap.size) 9 #[.string ⟨x5.toArray⟩]:=Blk.keep (by repeat' (first|with_reducible refine Blk.new_at ?_|with_reducible refine Blk.alloc ?_ _|with_reducible refine Blk.other ?_ ?_ _|with_reducible refine Blk.setRow_other ?_ ?_|(simp;done)|(simp;omega))) hf (by simp;omega)
 have hNr:=strs_rowk (N:=(fun k=>w.heap.size≤k∧k≠w.heap.size∧k≠w1.heap.size)) (l:=[x5]) hN (by (try simp);omega) (by simp) (by simp)
 have HS_6:=hid hNr
 clear hN hNr
 have hl6:=hq6.out.mu (Shr.expect _)
 clear hT hf hi
 have hlD:=HD6.out.lt
 go_wp2_with (first|(refine wpList_load_row rfl 52 _ rfl (w1.heap.size) rfl 52 _ (0,0) _ HD6.out Tryz.underlying52 rfl rstmt_size ?_)|(refine wpList_store_row rfl 52 _ _ rfl (w.heap.size) _ rfl rfl 52 _ (HB6.out.row [w1.heap.size]) rstmt_size rfl (by simp[Value.oneCell']) ?_))
 refine bodyPost_ret (results_cell_row (p:=2) rfl _ _ (w.heap.size) 52 _ (0,0) _ rfl (setRow_heap _ _ _ _ _ _ (HB6.out.row [w1.heap.size])) Tryz.underlying52 rfl rstmt_size) rfl ?_
 clear hlD
 exact RD.mk (.mk 3 x3 [x5] [] Px.expr0 [] [] [] [] x1) s6 (by refine Rel.bind hq1.out ?_;unfold refS;refine Rel.bn (no_word (fun ts e=>by cases e;rw[show Px.word (t :: r)=_ from ht];decide)) ?_;refine Rel.by (Rel.take_true (show ([[42]]:List Txt).contains t.text=true by rw[ht];decide)) ?_;unfold Px.storeS;refine .bind hq3.out<|.bind hq4.out ?_;refine .bind hq5.out<|.bind hq6.out ?_;exact Rel.pure _ _) (HF6.out.jf [w1.heap.size,w.heap.size]) (HI6.out.f [w1.heap.size,w.heap.size] H.out) ⟨_,rfl,(by rw[stmtQ_mk];unfold strsQ typesS stmtsS armsS funcsS;exact rep_int.2 ⟨_,rfl,rep_str.2 ⟨_,rfl,rep_sl.2 ⟨_,_,rfl,(HS_6.out.f [w1.heap.size,w.heap.size]),rep_sl.2 ⟨_,_,rfl,RowV.nil _ _ _ _,Rep.app (cs:=[.int .i64 0,.string ⟨#[]⟩,.string ⟨#[]⟩,.string ⟨#[]⟩,.slice none 0 0,.int .i64 0,.slice none 0 0,.int .i64 0]) (expr0_rep) (rep_sl.2 ⟨_,_,rfl,RowV.nil _ _ _ _,rep_sl.2 ⟨_,_,rfl,RowV.nil _ _ _ _,rep_sl.2 ⟨_,_,rfl,RowV.nil _ _ _ _,rep_sl.2 ⟨_,_,rfl,RowV.nil _ _ _ _,rep_int.2 ⟨_,rfl,rep_nil.2 rfl⟩⟩⟩⟩⟩)⟩⟩⟩⟩)⟩
set_option maxRecDepth 100000 in
set_option maxHeartbeats 6400000 in
theorem rstmt_if (c:RCtx) (t:Tk) (r:List Tk) (w:World) (h:IR c (RS.live (t :: r)) w) (ht:t.text=[105,102]) (n m:Nat) (hst:RL c 99 (RS.mu (RS.live (t :: r))) (okAgg stmtQ) (Px.stmtF c.size n m)) (hm:(RS.mu (RS.live (t :: r)))≤n) :
  Calls Tryz.prog 99 #[.pointer (some ⟨c.R,0,none⟩)] w (RD c w (okAgg stmtQ) (do let o ← Px.offsetR c.size;refS c.size n m o) (RS.live (t :: r))):=by
 have HST:=hid hst
 clear hst
 have H:=hid h
 have HR0:=H.out.lt.1
 clear h
 go_enter Tryz.func99,Tryz.ntmps99
 go_wp2_with fail
 refine(rat_same c (RS.live (t :: r)) _ (by exact H.out.f [] H.out)).mono ?_
 rintro e w1 hp
 obtain⟨x1,rfl,hq1,hf,hi⟩:=hp
 have hT:Fr [c.R] w w1:=Fr.trans frk hf.wide
 have hz1:=hf.size;try simp at hz1
 have HB1:Hid (Blk w1 (w.heap.size) 52 #[zI,zS,zN,zN,zI,zS,zS,zS,zN,zI,zN,zI,zN,zN,zN,zN,zI]):=hid ((Blk.new w _ _).keep hf (by first|(simp;done)|omega|(simp;omega)))
 have HI1:=hid hi
 have HF1:=hid ((Fr.refl [c.R] w).j hT)
 clear hT hf hi
 have hneDB:w1.heap.size≠w.heap.size:=by omega
 have hneBD:=hneDB.symm
 go_wp2_with (refine wpList_store_row rfl 52 _ _ rfl (w1.heap.size) #[.int .i64 0,.string ⟨#[]⟩,.slice none 0 0,.slice none 0 0,.int .i64 0,.string ⟨#[]⟩,.string ⟨#[]⟩,.string ⟨#[]⟩,.slice none 0 0,.int .i64 0,.slice none 0 0,.int .i64 0,.slice none 0 0,.slice none 0 0,.slice none 0 0,.slice none 0 0,.int .i64 x1] rfl rfl 52 _ (Blk.new_at (by simp)) rstmt_size rfl (by simp[Value.oneCell']) ?_)
 refine(rnext_no c (RS.live (t :: r)) [108,101,116] _ (by exact HI1.out.f [w1.heap.size] H.out) (by decide) (by decide) (fun ts e=>by cases e;rw[show Px.word (t :: r)=_ from ht];decide)).mono ?_
 rintro e wj0 ⟨rfl,hf,hi⟩
 have HG0:=hid hf
 have HJ0:=hid hi
 clear hf hi
 go_wp2_with fail
 refine(rnext_no c (RS.live (t :: r)) [42] _ HJ0.out (by decide) (by decide) (fun ts e=>by cases e;rw[show Px.word (t :: r)=_ from ht];decide)).mono ?_
 rintro e wj1 ⟨rfl,hf,hi⟩
 have HG1:=hid (HG0.out.trans hf)
 have HJ1:=hid hi
 clear hf hi
 go_wp2_with fail
 refine(rnext_yes c t r [105,102] _ HJ1.out ht (by decide) (by decide)).mono ?_
 rintro e w2 ⟨rfl,hf0,hi⟩
 have hf:=HG1.out.trans hf0
 obtain⟨hT,HB2,HI2,HF2,hz2⟩:=IR.st [w1.heap.size] HB1.out HF1.out hf hi
 try simp at hz2
 have HD2:Hid (Blk w2 (w1.heap.size) 52 #[zI,zS,zN,zN,zI,zS,zS,zS,zN,zI,zN,zI,zN,zN,zN,zN,.int .i64 x1]):=hid ((show Blk _ (w1.heap.size) 52 #[zI,zS,zN,zN,zI,zS,zS,zS,zN,zI,zN,zI,zN,zN,zN,zN,.int .i64 x1] from setRow_heap _ _ _ _ _ _ (Blk.new_at (by simp))).k hf)
 clear hT hf hi hf0
 have hlr:(RS.live r).mu<(RS.live (t :: r)).mu:=by simp[RS.mu]
 have hlD:=HD2.out.lt
 obtain⟨d0,f0⟩:=HD2.out.df 0 (v:=.int .i64 0) rfl
 go_wp2_with fail
 clear hlD d0 f0
 refine(rname_any c (RS.live r) _ (by exact HI2.out.f [w1.heap.size] H.out)).mono ?_
 rintro e w3 ⟨_,x3,s3,rfl,hq3,hf,hi,rfl⟩
 obtain⟨hT,HB3,HI3,HF3,hz3⟩:=IR.st [w1.heap.size] HB2.out HF2.out hf hi
 try simp at hz3
 have HD3:Hid (Blk w3 (w1.heap.size) 52 #[.int .i64 4,zS,zN,zN,zI,zS,zS,zS,zN,zI,zN,zI,zN,zN,zN,zN,.int .i64 x1]):=hid ((HD2.out.set 0 (.int .i64 4)).k hf)
 have hl3:=hq3.out.mu Shr.name
 clear hT hf hi
 have hlD:=HD3.out.lt
 obtain⟨d1,f1⟩:=HD3.out.df 1 (v:=.string ⟨#[]⟩) rfl
 go_wp2_with fail
 clear hlD d1 f1
 refine(rblock_any c s3 _ (by exact HI3.out.f [w1.heap.size] H.out) _ _ HST.out (strict_stmtF c.size n m) (shr_stmtF c.size n m) (by omega)).mono ?_
 rintro e w4 ⟨v4,x4,s4,rfl,hq4,hf,hi,hv⟩
 obtain⟨p4,n4,k4,rfl⟩:=row_shp hv
 have hV4:=(row_of hv).k (N':=(fun k=>w.heap.size≤k∧k≠w.heap.size∧k≠w1.heap.size)) (Fr.refl [] _)
 obtain⟨hT,HB4,HI4,HF4,hz4⟩:=IR.st [w1.heap.size] HB3.out HF3.out hf hi
 try simp at hz4
 have HD4:Hid (Blk w4 (w1.heap.size) 52 #[.int .i64 4,.string ⟨x3.toArray⟩,zN,zN,zI,zS,zS,zS,zN,zI,zN,zI,zN,zN,zN,zN,.int .i64 x1]):=hid ((HD3.out.set 1 (.string ⟨x3.toArray⟩)).k hf)
 have HV4:=hid hV4
 have hl4:=hq4.out.mu (shr_block (shr_stmtF c.size n m))
 clear hT hf hi hV4 hv
 have hlD:=HD4.out.lt
 obtain⟨d12,f12⟩:=HD4.out.df 12 (v:=.slice none 0 0) rfl
 go_wp2_with fail
 clear hlD d12 f12
 refine(rnext_q c s4 [101,108,115,101] _ (by exact HI4.out.f [w1.heap.size] H.out)).mono ?_
 rintro e w5 (⟨s5,hq5,hl5,rfl,hf,hi⟩|⟨hq5,rfl,hf,hi⟩)
 ·skip
  obtain⟨hT,HB5,HI5,HF5,hz5⟩:=IR.st [w1.heap.size] HB4.out HF4.out hf hi
  try simp at hz5
  have HD5:Hid (Blk w5 (w1.heap.size) 52 #[.int .i64 4,.string ⟨x3.toArray⟩,zN,zN,zI,zS,zS,zS,zN,zI,zN,zI,.slice p4 n4 k4,zN,zN,zN,.int .i64 x1]):=hid ((HD4.out.set 12 (.slice p4 n4 k4)).k hf)
  have HV4_5:=hid (HV4.out.ks hT)
  clear hT hf hi
  have hlD:=HD5.out.lt
  go_wp2_with fail
  clear hlD
  refine(rblock_any c s5 _ (by exact HI5.out.f [w1.heap.size] H.out) _ _ HST.out (strict_stmtF c.size n m) (shr_stmtF c.size n m) (by omega)).mono ?_
  rintro e w6 ⟨v6,x6,s6,rfl,hq6,hf,hi,hv⟩
  obtain⟨p6,n6,k6,rfl⟩:=row_shp hv
  have hV6:=(row_of hv).k (N':=(fun k=>w.heap.size≤k∧k≠w.heap.size∧k≠w1.heap.size)) (Fr.refl [] _)
  obtain⟨hT,HB6,HI6,HF6,hz6⟩:=IR.st [w1.heap.size] HB5.out HF5.out hf hi
  try simp at hz6
  have HD6:=hid (HD5.out.k hf)
  have HV4_6:=hid (HV4_5.out.ks hT)
  have HV6:=hid hV6
  have hl6:=hq6.out.mu (shr_block (shr_stmtF c.size n m))
  clear hT hf hi hV6 hv
  have hlD:=HD6.out.lt
  obtain⟨d13,f13⟩:=HD6.out.df 13 (v:=.slice none 0 0) rfl
  go_wp2_with (first|(refine wpList_load_row rfl 52 _ rfl (w1.heap.size) rfl 52 #[.int .i64 4,.string ⟨x3.toArray⟩,.slice none 0 0,.slice none 0 0,.int .i64 0,.string ⟨#[]⟩,.string ⟨#[]⟩,.string ⟨#[]⟩,.slice none 0 0,.int .i64 0,.slice none 0 0,.int .i64 0,.slice p4 n4 k4,.slice p6 n6 k6,.slice none 0 0,.slice none 0 0,.int .i64 x1] (0,0) _ (HD6.out.set 13 (.slice p6 n6 k6)) Tryz.underlying52 rfl rstmt_size ?_)|(refine wpList_store_row rfl 52 _ _ rfl (w.heap.size) _ rfl rfl 52 _ (HB6.out.row [w1.heap.size]) rstmt_size rfl (by simp[Value.oneCell']) ?_))
  refine bodyPost_ret (results_cell_row (p:=2) rfl _ _ (w.heap.size) 52 _ (0,0) _ rfl (setRow_heap _ _ _ _ _ _ (HB6.out.row [w1.heap.size])) Tryz.underlying52 rfl rstmt_size) rfl ?_
  clear hlD d13 f13
  exact RD.mk (.mk 4 x3 [] [] Px.expr0 x4 x6 [] [] x1) s6 (by refine Rel.bind hq1.out ?_;unfold refS;refine Rel.bn (no_word (fun ts e=>by cases e;rw[show Px.word (t :: r)=_ from ht];decide)) ?_;refine Rel.bn (no_word (fun ts e=>by cases e;rw[show Px.word (t :: r)=_ from ht];decide)) ?_;refine Rel.by (Rel.take_true (show ([[105,102]]:List Txt).contains t.text=true by rw[ht];decide)) ?_;unfold Px.choiceS;refine .bind hq3.out<|.bind hq4.out ?_;refine .by hq5.out<|.bind hq6.out ?_;exact Rel.pure _ _) (HF6.out.jf [w1.heap.size,w.heap.size]) (HI6.out.f [w1.heap.size,w.heap.size] H.out) ⟨_,rfl,(by rw[stmtQ_mk];unfold strsQ typesS stmtsS armsS funcsS;exact rep_int.2 ⟨_,rfl,rep_str.2 ⟨_,rfl,rep_sl.2 ⟨_,_,rfl,RowV.nil _ _ _ _,rep_sl.2 ⟨_,_,rfl,RowV.nil _ _ _ _,Rep.app (cs:=[.int .i64 0,.string ⟨#[]⟩,.string ⟨#[]⟩,.string ⟨#[]⟩,.slice none 0 0,.int .i64 0,.slice none 0 0,.int .i64 0]) (expr0_rep) (rep_sl.2 ⟨_,_,rfl,(HV4_6.out.f [w1.heap.size,w.heap.size]),rep_sl.2 ⟨_,_,rfl,(HV6.out.f [w1.heap.size,w.heap.size]),rep_sl.2 ⟨_,_,rfl,RowV.nil _ _ _ _,rep_sl.2 ⟨_,_,rfl,RowV.nil _ _ _ _,rep_int.2 ⟨_,rfl,rep_nil.2 rfl⟩⟩⟩⟩⟩)⟩⟩⟩⟩)⟩
 ·skip
  obtain⟨hT,HB5,HI5,HF5,hz5⟩:=IR.st [w1.heap.size] HB4.out HF4.out hf hi
  try simp at hz5
  have HD5:Hid (Blk w5 (w1.heap.size) 52 #[.int .i64 4,.string ⟨x3.toArray⟩,zN,zN,zI,zS,zS,zS,zN,zI,zN,zI,.slice p4 n4 k4,zN,zN,zN,.int .i64 x1]):=hid ((HD4.out.set 12 (.slice p4 n4 k4)).k hf)
  have HV4_5:=hid (HV4.out.ks hT)
  clear hT hf hi
  have hlD:=HD5.out.lt
  go_wp2_with (first|(refine wpList_load_row rfl 52 _ rfl (w1.heap.size) rfl 52 _ (0,0) _ HD5.out Tryz.underlying52 rfl rstmt_size ?_)|(refine wpList_store_row rfl 52 _ _ rfl (w.heap.size) _ rfl rfl 52 _ (HB5.out.row [w1.heap.size]) rstmt_size rfl (by simp[Value.oneCell']) ?_))
  refine bodyPost_ret (results_cell_row (p:=2) rfl _ _ (w.heap.size) 52 _ (0,0) _ rfl (setRow_heap _ _ _ _ _ _ (HB5.out.row [w1.heap.size])) Tryz.underlying52 rfl rstmt_size) rfl ?_
  clear hlD
  exact RD.mk (.mk 4 x3 [] [] Px.expr0 x4 [] [] [] x1) s4 (by refine Rel.bind hq1.out ?_;unfold refS;refine Rel.bn (no_word (fun ts e=>by cases e;rw[show Px.word (t :: r)=_ from ht];decide)) ?_;refine Rel.bn (no_word (fun ts e=>by cases e;rw[show Px.word (t :: r)=_ from ht];decide)) ?_;refine Rel.by (Rel.take_true (show ([[105,102]]:List Txt).contains t.text=true by rw[ht];decide)) ?_;unfold Px.choiceS;refine .bind hq3.out<|.bind hq4.out<|.bn hq5.out ?_;exact Rel.pure _ _) (HF5.out.jf [w1.heap.size,w.heap.size]) (HI5.out.f [w1.heap.size,w.heap.size] H.out) ⟨_,rfl,(by rw[stmtQ_mk];unfold strsQ typesS stmtsS armsS funcsS;exact rep_int.2 ⟨_,rfl,rep_str.2 ⟨_,rfl,rep_sl.2 ⟨_,_,rfl,RowV.nil _ _ _ _,rep_sl.2 ⟨_,_,rfl,RowV.nil _ _ _ _,Rep.app (cs:=[.int .i64 0,.string ⟨#[]⟩,.string ⟨#[]⟩,.string ⟨#[]⟩,.slice none 0 0,.int .i64 0,.slice none 0 0,.int .i64 0]) (expr0_rep) (rep_sl.2 ⟨_,_,rfl,(HV4_5.out.f [w1.heap.size,w.heap.size]),rep_sl.2 ⟨_,_,rfl,RowV.nil _ _ _ _,rep_sl.2 ⟨_,_,rfl,RowV.nil _ _ _ _,rep_sl.2 ⟨_,_,rfl,RowV.nil _ _ _ _,rep_int.2 ⟨_,rfl,rep_nil.2 rfl⟩⟩⟩⟩⟩)⟩⟩⟩⟩)⟩
set_option maxRecDepth 100000 in
set_option maxHeartbeats 6400000 in
theorem rstmt_while (c:RCtx) (t:Tk) (r:List Tk) (w:World) (h:IR c (RS.live (t :: r)) w) (ht:t.text=[119,104,105,108,101]) (n m:Nat) (hst:RL c 99 (RS.mu (RS.live (t :: r))) (okAgg stmtQ) (Px.stmtF c.size n m)) (hm:(RS.mu (RS.live (t :: r)))≤n) :
  Calls Tryz.prog 99 #[.pointer (some ⟨c.R,0,none⟩)] w (RD c w (okAgg stmtQ) (do let o ← Px.offsetR c.size;refS c.size n m o) (RS.live (t :: r))):=by
 have HST:=hid hst
 clear hst
 have H:=hid h
 have HR0:=H.out.lt.1
 clear h
 go_enter Tryz.func99,Tryz.ntmps99
 go_wp2_with fail
 refine(rat_same c (RS.live (t :: r)) _ (by exact H.out.f [] H.out)).mono ?_
 rintro e w1 hp
 obtain⟨x1,rfl,hq1,hf,hi⟩:=hp
 have hT:Fr [c.R] w w1:=Fr.trans frk hf.wide
 have hz1:=hf.size;try simp at hz1
 have HB1:Hid (Blk w1 (w.heap.size) 52 #[zI,zS,zN,zN,zI,zS,zS,zS,zN,zI,zN,zI,zN,zN,zN,zN,zI]):=hid ((Blk.new w _ _).keep hf (by first|(simp;done)|omega|(simp;omega)))
 have HI1:=hid hi
 have HF1:=hid ((Fr.refl [c.R] w).j hT)
 clear hT hf hi
 have hneDB:w1.heap.size≠w.heap.size:=by omega
 have hneBD:=hneDB.symm
 go_wp2_with (refine wpList_store_row rfl 52 _ _ rfl (w1.heap.size) #[.int .i64 0,.string ⟨#[]⟩,.slice none 0 0,.slice none 0 0,.int .i64 0,.string ⟨#[]⟩,.string ⟨#[]⟩,.string ⟨#[]⟩,.slice none 0 0,.int .i64 0,.slice none 0 0,.int .i64 0,.slice none 0 0,.slice none 0 0,.slice none 0 0,.slice none 0 0,.int .i64 x1] rfl rfl 52 _ (Blk.new_at (by simp)) rstmt_size rfl (by simp[Value.oneCell']) ?_)
 refine(rnext_no c (RS.live (t :: r)) [108,101,116] _ (by exact HI1.out.f [w1.heap.size] H.out) (by decide) (by decide) (fun ts e=>by cases e;rw[show Px.word (t :: r)=_ from ht];decide)).mono ?_
 rintro e wj0 ⟨rfl,hf,hi⟩
 have HG0:=hid hf
 have HJ0:=hid hi
 clear hf hi
 go_wp2_with fail
 refine(rnext_no c (RS.live (t :: r)) [42] _ HJ0.out (by decide) (by decide) (fun ts e=>by cases e;rw[show Px.word (t :: r)=_ from ht];decide)).mono ?_
 rintro e wj1 ⟨rfl,hf,hi⟩
 have HG1:=hid (HG0.out.trans hf)
 have HJ1:=hid hi
 clear hf hi
 go_wp2_with fail
 refine(rnext_no c (RS.live (t :: r)) [105,102] _ HJ1.out (by decide) (by decide) (fun ts e=>by cases e;rw[show Px.word (t :: r)=_ from ht];decide)).mono ?_
 rintro e wj2 ⟨rfl,hf,hi⟩
 have HG2:=hid (HG1.out.trans hf)
 have HJ2:=hid hi
 clear hf hi
 go_wp2_with fail
 refine(rnext_yes c t r [119,104,105,108,101] _ HJ2.out ht (by decide) (by decide)).mono ?_
 rintro e w2 ⟨rfl,hf0,hi⟩
 have hf:=HG2.out.trans hf0
 obtain⟨hT,HB2,HI2,HF2,hz2⟩:=IR.st [w1.heap.size] HB1.out HF1.out hf hi
 try simp at hz2
 have HD2:Hid (Blk w2 (w1.heap.size) 52 #[zI,zS,zN,zN,zI,zS,zS,zS,zN,zI,zN,zI,zN,zN,zN,zN,.int .i64 x1]):=hid ((show Blk _ (w1.heap.size) 52 #[zI,zS,zN,zN,zI,zS,zS,zS,zN,zI,zN,zI,zN,zN,zN,zN,.int .i64 x1] from setRow_heap _ _ _ _ _ _ (Blk.new_at (by simp))).k hf)
 clear hT hf hi hf0
 have hlr:(RS.live r).mu<(RS.live (t :: r)).mu:=by simp[RS.mu]
 have hlD:=HD2.out.lt
 obtain⟨d0,f0⟩:=HD2.out.df 0 (v:=.int .i64 0) rfl
 go_wp2_with fail
 clear hlD d0 f0
 refine(rname_any c (RS.live r) _ (by exact HI2.out.f [w1.heap.size] H.out)).mono ?_
 rintro e w3 ⟨_,x3,s3,rfl,hq3,hf,hi,rfl⟩
 obtain⟨hT,HB3,HI3,HF3,hz3⟩:=IR.st [w1.heap.size] HB2.out HF2.out hf hi
 try simp at hz3
 have HD3:Hid (Blk w3 (w1.heap.size) 52 #[.int .i64 5,zS,zN,zN,zI,zS,zS,zS,zN,zI,zN,zI,zN,zN,zN,zN,.int .i64 x1]):=hid ((HD2.out.set 0 (.int .i64 5)).k hf)
 have hl3:=hq3.out.mu Shr.name
 clear hT hf hi
 have hlD:=HD3.out.lt
 obtain⟨d1,f1⟩:=HD3.out.df 1 (v:=.string ⟨#[]⟩) rfl
 go_wp2_with fail
 clear hlD d1 f1
 refine(rblock_any c s3 _ (by exact HI3.out.f [w1.heap.size] H.out) _ _ HST.out (strict_stmtF c.size n m) (shr_stmtF c.size n m) (by omega)).mono ?_
 rintro e w4 ⟨v4,x4,s4,rfl,hq4,hf,hi,hv⟩
 obtain⟨p4,n4,k4,rfl⟩:=row_shp hv
 have hV4:=(row_of hv).k (N':=(fun k=>w.heap.size≤k∧k≠w.heap.size∧k≠w1.heap.size)) (Fr.refl [] _)
 obtain⟨hT,HB4,HI4,HF4,hz4⟩:=IR.st [w1.heap.size] HB3.out HF3.out hf hi
 try simp at hz4
 have HD4:Hid (Blk w4 (w1.heap.size) 52 #[.int .i64 5,.string ⟨x3.toArray⟩,zN,zN,zI,zS,zS,zS,zN,zI,zN,zI,zN,zN,zN,zN,.int .i64 x1]):=hid ((HD3.out.set 1 (.string ⟨x3.toArray⟩)).k hf)
 have HV4:=hid hV4
 have hl4:=hq4.out.mu (shr_block (shr_stmtF c.size n m))
 clear hT hf hi hV4 hv
 have hlD:=HD4.out.lt
 obtain⟨d12,f12⟩:=HD4.out.df 12 (v:=.slice none 0 0) rfl
 go_wp2_with (first|(refine wpList_load_row rfl 52 _ rfl (w1.heap.size) rfl 52 #[.int .i64 5,.string ⟨x3.toArray⟩,.slice none 0 0,.slice none 0 0,.int .i64 0,.string ⟨#[]⟩,.string ⟨#[]⟩,.string ⟨#[]⟩,.slice none 0 0,.int .i64 0,.slice none 0 0,.int .i64 0,.slice p4 n4 k4,.slice none 0 0,.slice none 0 0,.slice none 0 0,.int .i64 x1] (0,0) _ (HD4.out.set 12 (.slice p4 n4 k4)) Tryz.underlying52 rfl rstmt_size ?_)|(refine wpList_store_row rfl 52 _ _ rfl (w.heap.size) _ rfl rfl 52 _ (HB4.out.row [w1.heap.size]) rstmt_size rfl (by simp[Value.oneCell']) ?_))
 refine bodyPost_ret (results_cell_row (p:=2) rfl _ _ (w.heap.size) 52 _ (0,0) _ rfl (setRow_heap _ _ _ _ _ _ (HB4.out.row [w1.heap.size])) Tryz.underlying52 rfl rstmt_size) rfl ?_
 clear hlD d12 f12
 exact RD.mk (.mk 5 x3 [] [] Px.expr0 x4 [] [] [] x1) s4 (by refine Rel.bind hq1.out ?_;unfold refS;refine Rel.bn (no_word (fun ts e=>by cases e;rw[show Px.word (t :: r)=_ from ht];decide)) ?_;refine Rel.bn (no_word (fun ts e=>by cases e;rw[show Px.word (t :: r)=_ from ht];decide)) ?_;refine Rel.bn (no_word (fun ts e=>by cases e;rw[show Px.word (t :: r)=_ from ht];decide)) ?_;refine Rel.by (Rel.take_true (show ([[119,104,105,108,101]]:List Txt).contains t.text=true by rw[ht];decide)) ?_;unfold Px.loopS;refine .bind hq3.out<|.bind hq4.out ?_;exact Rel.pure _ _) (HF4.out.jf [w1.heap.size,w.heap.size]) (HI4.out.f [w1.heap.size,w.heap.size] H.out) ⟨_,rfl,(by rw[stmtQ_mk];unfold strsQ typesS stmtsS armsS funcsS;exact rep_int.2 ⟨_,rfl,rep_str.2 ⟨_,rfl,rep_sl.2 ⟨_,_,rfl,RowV.nil _ _ _ _,rep_sl.2 ⟨_,_,rfl,RowV.nil _ _ _ _,Rep.app (cs:=[.int .i64 0,.string ⟨#[]⟩,.string ⟨#[]⟩,.string ⟨#[]⟩,.slice none 0 0,.int .i64 0,.slice none 0 0,.int .i64 0]) (expr0_rep) (rep_sl.2 ⟨_,_,rfl,(HV4.out.f [w1.heap.size,w.heap.size]),rep_sl.2 ⟨_,_,rfl,RowV.nil _ _ _ _,rep_sl.2 ⟨_,_,rfl,RowV.nil _ _ _ _,rep_sl.2 ⟨_,_,rfl,RowV.nil _ _ _ _,rep_int.2 ⟨_,rfl,rep_nil.2 rfl⟩⟩⟩⟩⟩)⟩⟩⟩⟩)⟩
set_option maxRecDepth 100000 in
set_option maxHeartbeats 6400000 in
theorem rstmt_panic (c:RCtx) (t:Tk) (r:List Tk) (w:World) (h:IR c (RS.live (t :: r)) w) (ht:t.text=[112,97,110,105,99]) (n m:Nat) (hst:RL c 99 (RS.mu (RS.live (t :: r))) (okAgg stmtQ) (Px.stmtF c.size n m)) (hm:(RS.mu (RS.live (t :: r)))≤n) :
  Calls Tryz.prog 99 #[.pointer (some ⟨c.R,0,none⟩)] w (RD c w (okAgg stmtQ) (do let o ← Px.offsetR c.size;refS c.size n m o) (RS.live (t :: r))):=by
 have HST:=hid hst
 clear hst
 have H:=hid h
 have HR0:=H.out.lt.1
 clear h
 go_enter Tryz.func99,Tryz.ntmps99
 go_wp2_with fail
 refine(rat_same c (RS.live (t :: r)) _ (by exact H.out.f [] H.out)).mono ?_
 rintro e w1 hp
 obtain⟨x1,rfl,hq1,hf,hi⟩:=hp
 have hT:Fr [c.R] w w1:=Fr.trans frk hf.wide
 have hz1:=hf.size;try simp at hz1
 have HB1:Hid (Blk w1 (w.heap.size) 52 #[zI,zS,zN,zN,zI,zS,zS,zS,zN,zI,zN,zI,zN,zN,zN,zN,zI]):=hid ((Blk.new w _ _).keep hf (by first|(simp;done)|omega|(simp;omega)))
 have HI1:=hid hi
 have HF1:=hid ((Fr.refl [c.R] w).j hT)
 clear hT hf hi
 have hneDB:w1.heap.size≠w.heap.size:=by omega
 have hneBD:=hneDB.symm
 go_wp2_with (refine wpList_store_row rfl 52 _ _ rfl (w1.heap.size) #[.int .i64 0,.string ⟨#[]⟩,.slice none 0 0,.slice none 0 0,.int .i64 0,.string ⟨#[]⟩,.string ⟨#[]⟩,.string ⟨#[]⟩,.slice none 0 0,.int .i64 0,.slice none 0 0,.int .i64 0,.slice none 0 0,.slice none 0 0,.slice none 0 0,.slice none 0 0,.int .i64 x1] rfl rfl 52 _ (Blk.new_at (by simp)) rstmt_size rfl (by simp[Value.oneCell']) ?_)
 refine(rnext_no c (RS.live (t :: r)) [108,101,116] _ (by exact HI1.out.f [w1.heap.size] H.out) (by decide) (by decide) (fun ts e=>by cases e;rw[show Px.word (t :: r)=_ from ht];decide)).mono ?_
 rintro e wj0 ⟨rfl,hf,hi⟩
 have HG0:=hid hf
 have HJ0:=hid hi
 clear hf hi
 go_wp2_with fail
 refine(rnext_no c (RS.live (t :: r)) [42] _ HJ0.out (by decide) (by decide) (fun ts e=>by cases e;rw[show Px.word (t :: r)=_ from ht];decide)).mono ?_
 rintro e wj1 ⟨rfl,hf,hi⟩
 have HG1:=hid (HG0.out.trans hf)
 have HJ1:=hid hi
 clear hf hi
 go_wp2_with fail
 refine(rnext_no c (RS.live (t :: r)) [105,102] _ HJ1.out (by decide) (by decide) (fun ts e=>by cases e;rw[show Px.word (t :: r)=_ from ht];decide)).mono ?_
 rintro e wj2 ⟨rfl,hf,hi⟩
 have HG2:=hid (HG1.out.trans hf)
 have HJ2:=hid hi
 clear hf hi
 go_wp2_with fail
 refine(rnext_no c (RS.live (t :: r)) [119,104,105,108,101] _ HJ2.out (by decide) (by decide) (fun ts e=>by cases e;rw[show Px.word (t :: r)=_ from ht];decide)).mono ?_
 rintro e wj3 ⟨rfl,hf,hi⟩
 have HG3:=hid (HG2.out.trans hf)
 have HJ3:=hid hi
 clear hf hi
 go_wp2_with fail
 refine(rnext_no c (RS.live (t :: r)) [109,97,116,99,104] _ HJ3.out (by decide) (by decide) (fun ts e=>by cases e;rw[show Px.word (t :: r)=_ from ht];decide)).mono ?_
 rintro e wj4 ⟨rfl,hf,hi⟩
 have HG4:=hid (HG3.out.trans hf)
 have HJ4:=hid hi
 clear hf hi
 go_wp2_with fail
 refine(rnext_no c (RS.live (t :: r)) [114,101,116,117,114,110] _ HJ4.out (by decide) (by decide) (fun ts e=>by cases e;rw[show Px.word (t :: r)=_ from ht];decide)).mono ?_
 rintro e wj5 ⟨rfl,hf,hi⟩
 have HG5:=hid (HG4.out.trans hf)
 have HJ5:=hid hi
 clear hf hi
 go_wp2_with fail
 refine(rnext_yes c t r [112,97,110,105,99] _ HJ5.out ht (by decide) (by decide)).mono ?_
 rintro e w2 ⟨rfl,hf0,hi⟩
 have hf:=HG5.out.trans hf0
 obtain⟨hT,HB2,HI2,HF2,hz2⟩:=IR.st [w1.heap.size] HB1.out HF1.out hf hi
 try simp at hz2
 have HD2:Hid (Blk w2 (w1.heap.size) 52 #[zI,zS,zN,zN,zI,zS,zS,zS,zN,zI,zN,zI,zN,zN,zN,zN,.int .i64 x1]):=hid ((show Blk _ (w1.heap.size) 52 #[zI,zS,zN,zN,zI,zS,zS,zS,zN,zI,zN,zI,zN,zN,zN,zN,.int .i64 x1] from setRow_heap _ _ _ _ _ _ (Blk.new_at (by simp))).k hf)
 clear hT hf hi hf0
 have hlr:(RS.live r).mu<(RS.live (t :: r)).mu:=by simp[RS.mu]
 have hlD:=HD2.out.lt
 obtain⟨d0,f0⟩:=HD2.out.df 0 (v:=.int .i64 0) rfl
 go_wp2_with fail
 clear hlD d0 f0
 refine(rneed_q c (RS.live r) [59] _ (by exact HI2.out.f [w1.heap.size] H.out)).mono ?_
 rintro e w3 ⟨rfl,x3,s3,hq3,hf,hi⟩
 obtain⟨hT,HB3,HI3,HF3,hz3⟩:=IR.st [w1.heap.size] HB2.out HF2.out hf hi
 try simp at hz3
 have HD3:Hid (Blk w3 (w1.heap.size) 52 #[.int .i64 8,zS,zN,zN,zI,zS,zS,zS,zN,zI,zN,zI,zN,zN,zN,zN,.int .i64 x1]):=hid ((HD2.out.set 0 (.int .i64 8)).k hf)
 have hl3:=hq3.out.mu (Shr.expect _)
 clear hT hf hi
 have hlD:=HD3.out.lt
 go_wp2_with (first|(refine wpList_load_row rfl 52 _ rfl (w1.heap.size) rfl 52 _ (0,0) _ HD3.out Tryz.underlying52 rfl rstmt_size ?_)|(refine wpList_store_row rfl 52 _ _ rfl (w.heap.size) _ rfl rfl 52 _ (HB3.out.row [w1.heap.size]) rstmt_size rfl (by simp[Value.oneCell']) ?_))
 refine bodyPost_ret (results_cell_row (p:=2) rfl _ _ (w.heap.size) 52 _ (0,0) _ rfl (setRow_heap _ _ _ _ _ _ (HB3.out.row [w1.heap.size])) Tryz.underlying52 rfl rstmt_size) rfl ?_
 clear hlD
 exact RD.mk (.mk 8 [] [] [] Px.expr0 [] [] [] [] x1) s3 (by refine Rel.bind hq1.out ?_;unfold refS;refine Rel.bn (no_word (fun ts e=>by cases e;rw[show Px.word (t :: r)=_ from ht];decide)) ?_;refine Rel.bn (no_word (fun ts e=>by cases e;rw[show Px.word (t :: r)=_ from ht];decide)) ?_;refine Rel.bn (no_word (fun ts e=>by cases e;rw[show Px.word (t :: r)=_ from ht];decide)) ?_;refine Rel.bn (no_word (fun ts e=>by cases e;rw[show Px.word (t :: r)=_ from ht];decide)) ?_;refine Rel.bn (no_word (fun ts e=>by cases e;rw[show Px.word (t :: r)=_ from ht];decide)) ?_;refine Rel.bn (no_word (fun ts e=>by cases e;rw[show Px.word (t :: r)=_ from ht];decide)) ?_;refine Rel.by (Rel.take_true (show ([[112,97,110,105,99]]:List Txt).contains t.text=true by rw[ht];decide)) ?_;unfold Px.bareS;refine Rel.bind hq3.out ?_;exact Rel.pure _ _) (HF3.out.jf [w1.heap.size,w.heap.size]) (HI3.out.f [w1.heap.size,w.heap.size] H.out) ⟨_,rfl,(by rw[stmtQ_mk];unfold strsQ typesS stmtsS armsS funcsS;exact rep_int.2 ⟨_,rfl,rep_str.2 ⟨_,rfl,rep_sl.2 ⟨_,_,rfl,RowV.nil _ _ _ _,rep_sl.2 ⟨_,_,rfl,RowV.nil _ _ _ _,Rep.app (cs:=[.int .i64 0,.string ⟨#[]⟩,.string ⟨#[]⟩,.string ⟨#[]⟩,.slice none 0 0,.int .i64 0,.slice none 0 0,.int .i64 0]) (expr0_rep) (rep_sl.2 ⟨_,_,rfl,RowV.nil _ _ _ _,rep_sl.2 ⟨_,_,rfl,RowV.nil _ _ _ _,rep_sl.2 ⟨_,_,rfl,RowV.nil _ _ _ _,rep_sl.2 ⟨_,_,rfl,RowV.nil _ _ _ _,rep_int.2 ⟨_,rfl,rep_nil.2 rfl⟩⟩⟩⟩⟩)⟩⟩⟩⟩)⟩
end Go.Proofs.YtghohohagbbajaaGreatDoor
