/- part of the proof -/
import Derived.Test.YtghohohagbbajaaGreatDoorYKC
set_option linter.unusedVariables false
set_option linter.unusedSimpArgs false
set_option linter.unusedSectionVars false
namespace Go.Proofs.YtghohohagbbajaaGreatDoor
open Go.RowKit Go.Lib
open Lx (Tk)
open Px (Txt TyE VarD DataD TraitD BoundD ImplD ArgD ExprD StmtD ArmD FuncD ModD)
theorem live_word {s:RS} {x:Txt} (h:∀ ts,s=.live ts→Px.word ts=x) (hm:s.mu≠0) (hx:x≠[]):∃ t r,s=.live (t :: r)∧t.text=x:=by
 cases s with
 | dead e o=>exact absurd rfl hm
 | live ts =>
  have:=h ts rfl
  cases ts with
  | nil=>exact absurd this.symm hx
  | cons t r=>exact⟨t,r,rfl,this⟩
theorem Rel.optYes' {sz:Nat} {α:Type} {o cl:Txt} {read:Px.Rd α} {s s1 s2:RS} {l:List α} (h1:Rel sz (Px.accept [o]) s true s1) (h2:Rel sz (do let l ← Px.list read;let _ ← Px.expect [cl];Pure.pure l) s1 l s2):Rel sz (Px.optionalList o read cl) s l s2:=by
 unfold Px.optionalList
 refine Rel.bind h1 ?_
 simp only[if_true]
 exact h2
set_option maxRecDepth 100000 in
set_option maxHeartbeats 6400000 in
theorem rtyped_step (c:RCtx) (n:Nat)  (s:RS) (w:World) (h:IR c s w) (hty:RL c 66 s.mu (okAgg typeQ) (Px.typeF c.size n)) :
  Calls Tryz.prog 66 #[.pointer (some ⟨c.R,0,none⟩)] w (RD c w (okAgg typeQ) (refT c.size (Px.typeF c.size n)) s):=by
 have HTY:=hid hty
 clear hty
 have H:=hid h
 have HR0:=H.out.lt.1
 clear h
 go_enter Tryz.func66,Tryz.ntmps66
 go_wp2_with fail
 refine(rat_any c s _ (by exact H.out.f [] H.out)).mono ?_
 rintro e w1 ⟨_,x1,s1,rfl,hq1,hf,hi,rfl⟩
 have hT:Fr [c.R] w w1:=Fr.trans frk hf.wide
 have hz1:=hf.size;try simp at hz1
 have HB1:Hid (Blk w1 (w.heap.size) 39 #[zS,zN,zI]):=hid ((Blk.new w _ _).keep hf (by first|(simp;done)|omega|(simp;omega)))
 have HI1:=hid hi
 have HF1:=hid ((Fr.refl [c.R] w).j hT)
 have hl1:=hq1.out.mu (Shr.offset _)
 clear hT hf hi
 have hneDB:w1.heap.size≠w.heap.size:=by omega
 have hneBD:=hneDB.symm
 go_wp2_with fail
 refine(rnext_q c s1 [73,110,116] _ (by exact HI1.out.f [w1.heap.size] H.out)).mono ?_
 rintro e w2 (⟨s2,hq2,hl2,rfl,hf,hi⟩|⟨hq2,rfl,hf,hi⟩)
 ·skip
  obtain⟨hT,HB2,HI2,HF2,hz2⟩:=IR.st [w1.heap.size] HB1.out HF1.out hf hi
  try simp at hz2
  have HD2:Hid (Blk w2 (w1.heap.size) 39 #[zS,zN,.int .i64 x1]):=hid ((Blk.new_at (by simp)).k hf)
  clear hT hf hi
  have hlB:w.heap.size<w2.heap.size:=by omega
  have hlD:=HD2.out.lt
  obtain⟨d0,f0⟩:=HD2.out.df 0 (v:=.string ⟨#[]⟩) rfl
  have d1:=HD2.out.at 1 (v:=.slice none 0 0) rfl
  have d2:=HD2.out.at 2 (v:=.int .i64 x1) rfl
  obtain⟨b0,g0⟩:=HB2.out.df 0 (v:=.string ⟨#[]⟩) rfl
  obtain⟨b1,g1⟩:=HB2.out.df 1 (v:=.slice none 0 0) rfl
  obtain⟨b2,g2⟩:=HB2.out.df 2 (v:=.int .i64 0) rfl
  go_wp2_with fail
  refine bodyPost_ret (v:=.agg #[.string ⟨#[73,110,116]⟩,.slice none 0 0,.int .i64 x1]) (by simp[results,Tryz.results66,go_sem,hlB,hlD,d0,f0,d1,d2,b0,g0,b1,g1,b2,g2]) rfl ?_
  clear hlB hlD d0 f0 d1 d2 b0 g0 b1 g1 b2 g2
  exact RD.mk (.mk [73,110,116] [] x1) s2 (by unfold refT;refine .bind hq1.out<|.by hq2.out ?_;exact Rel.pure _ _) (HF2.out.jf [w1.heap.size,w.heap.size]) (HI2.out.f [w1.heap.size,w.heap.size] H.out) ⟨[.string ⟨#[73,110,116]⟩,.slice none 0 0,.int .i64 x1],rfl,by rw[typeQ_mk];exact rep_str.2 ⟨_,rfl,rep_sl.2 ⟨_,_,rfl,RowV.nil _ _ _ _,rep_int.2 ⟨_,rfl,rep_nil.2 rfl⟩⟩⟩⟩
 ·skip
  obtain⟨hT,HB2,HI2,HF2,hz2⟩:=IR.st [w1.heap.size] HB1.out HF1.out hf hi
  try simp at hz2
  have HD2:Hid (Blk w2 (w1.heap.size) 39 #[zS,zN,.int .i64 x1]):=hid ((Blk.new_at (by simp)).k hf)
  clear hT hf hi
  have hlD:=HD2.out.lt
  go_wp2_with fail
  clear hlD
  refine(rnext_q c s1 [65,114,101,110,97] _ (by exact HI2.out.f [w1.heap.size] H.out)).mono ?_
  rintro e w3 (⟨s3,hq3,hl3,rfl,hf,hi⟩|⟨hq3,rfl,hf,hi⟩)
  ·skip
   obtain⟨hT,HB3,HI3,HF3,hz3⟩:=IR.st [w1.heap.size] HB2.out HF2.out hf hi
   try simp at hz3
   have HD3:=hid (HD2.out.k hf)
   clear hT hf hi
   have hlB:w.heap.size<w3.heap.size:=by omega
   have hlD:=HD3.out.lt
   obtain⟨d0,f0⟩:=HD3.out.df 0 (v:=.string ⟨#[]⟩) rfl
   have d1:=HD3.out.at 1 (v:=.slice none 0 0) rfl
   have d2:=HD3.out.at 2 (v:=.int .i64 x1) rfl
   obtain⟨b0,g0⟩:=HB3.out.df 0 (v:=.string ⟨#[]⟩) rfl
   obtain⟨b1,g1⟩:=HB3.out.df 1 (v:=.slice none 0 0) rfl
   obtain⟨b2,g2⟩:=HB3.out.df 2 (v:=.int .i64 0) rfl
   go_wp2_with fail
   refine bodyPost_ret (v:=.agg #[.string ⟨#[65,114,101,110,97]⟩,.slice none 0 0,.int .i64 x1]) (by simp[results,Tryz.results66,go_sem,hlB,hlD,d0,f0,d1,d2,b0,g0,b1,g1,b2,g2]) rfl ?_
   clear hlB hlD d0 f0 d1 d2 b0 g0 b1 g1 b2 g2
   exact RD.mk (.mk [65,114,101,110,97] [] x1) s3 (by unfold refT;refine .bind hq1.out<|.bn hq2.out<|.by hq3.out ?_;exact Rel.pure _ _) (HF3.out.jf [w1.heap.size,w.heap.size]) (HI3.out.f [w1.heap.size,w.heap.size] H.out) ⟨[.string ⟨#[65,114,101,110,97]⟩,.slice none 0 0,.int .i64 x1],rfl,by rw[typeQ_mk];exact rep_str.2 ⟨_,rfl,rep_sl.2 ⟨_,_,rfl,RowV.nil _ _ _ _,rep_int.2 ⟨_,rfl,rep_nil.2 rfl⟩⟩⟩⟩
  ·skip
   obtain⟨hT,HB3,HI3,HF3,hz3⟩:=IR.st [w1.heap.size] HB2.out HF2.out hf hi
   try simp at hz3
   have HD3:=hid (HD2.out.k hf)
   clear hT hf hi
   have hlD:=HD3.out.lt
   go_wp2_with fail
   clear hlD
   refine(ris_q c s1 [66,111,120] _ (by exact HI3.out.f [w1.heap.size] H.out)).mono ?_
   rintro e w4 (⟨hx4,hm4,rfl,hf,hi⟩|⟨hq4,rfl,hf,hi⟩)
   ·skip
    obtain⟨hT,HB4,HI4,HF4,hz4⟩:=IR.st [w1.heap.size] HB3.out HF3.out hf hi
    try simp at hz4
    have HD4:=hid (HD3.out.k hf)
    clear hT hf hi
    obtain⟨t,r,rfl,hw4⟩:∃ t r,s1=.live (t :: r)∧t.text=[66,111,120]:=live_word hx4.out hm4 (by decide)
    obtain⟨k,cap,ad,hb,ht,hk,hts,hc⟩:=HI4.out.cells
    obtain⟨rfl,hcap,c0,c1,c2,c3⟩:=hc t r rfl
    have hlt:k<c.L.length:=by simp at hk;omega
    have hd:decide ((k:Int)<(c.L.length:Int))=true:=by simp;omega
    have hd2:decide (k<c.L.length)=true:=by simp;omega
    have hk6:k≤6000:=by have:=HI4.out.few;omega
    have HDR:Hid (r=c.L.drop (k+1)):=hid (by rw[← List.tail_drop,← hts];rfl)
    have HBR:=hid hb
    have HTV:=hid ht
    have g0:=HBR.out.cell 0
    have g1:=HBR.out.cell 1
    have f1:=HBR.out.frozen 1
    simp at g0 g1
    have hRw:c.R<w4.heap.size:=HI4.out.lt.1
    have hTw:c.Tb<w4.heap.size:=HI4.out.lt.2
    have hne:=HI4.out.ne
    have hTD:c.Tb≠w1.heap.size:=by have:=H.out.lt.2;omega
    have hRD:c.R≠w1.heap.size:=by omega
    have hDR:w1.heap.size≠c.R:=by omega
    have hDT:w1.heap.size≠c.Tb:=by omega
    rw[hw4] at c1
    have hlD:=HD4.out.lt
    obtain⟨d0,f0⟩:=HD4.out.df 0 (v:=.string ⟨#[]⟩) rfl
    clear hb ht hk hts hc
    go_wp2_with fail
    go_region
    go_wp2_with fail
    clear g0 g1 f1 c0 c1 c2 c3 hd hd2 hlD d0 f0
    generalize hE:World.drew _=w5
    have hfe:Fr [c.R,w1.heap.size] w4 w5:=by rw[← hE];exact frk
    have hz5:w4.heap.size≤w5.heap.size:=hfe.size
    have HI5:Hid (IR c (.live r) w5):=hid (HI4.out.turn2 (s':=.live r) hfe (by simp;omega) HTV.out (k+1) 0 0 (by rw[← hE];exact Blk.set (Blk.other HBR.out hRD _) 1 _) (by omega) ⟨rfl,rfl,HDR.out⟩)
    have HD5:Hid (Blk w5 (w1.heap.size) 39 #[.string ⟨#[66,111,120]⟩,.slice none 0 0,.int .i64 x1]):=hid (by rw[← hE];exact Blk.other (Blk.set HD4.out 0 _) hDR _)
    have HB5:Hid (Blk w5 (w.heap.size) 39 #[zS,zN,zI]):=hid (HB4.out.keep hfe (by simp;omega))
    have HF5:=hid (HF4.out.j hfe)
    have hq5:Hid (Rel c.size (Px.accept [[66,111,120]]) (.live (t :: r)) true (.live r)):=hid (Rel.take_true (by rw[hw4];decide))
    have hl5:(RS.live r).mu<(RS.live (t :: r)).mu:=by simp[RS.mu]
    clear hE hfe hRw hTw hne hTD hRD hDR hDT hlt
    refine(rneed_q c (RS.live r) [60] _ (by exact HI5.out.f [w1.heap.size] H.out)).mono ?_
    rintro e w6 ⟨rfl,x6,s6,hq6,hf,hi⟩
    obtain⟨hT,HB6,HI6,HF6,hz6⟩:=IR.st [w1.heap.size] HB5.out HF5.out hf hi
    try simp at hz6
    have HD6:=hid (HD5.out.k hf)
    have hl6:=hq6.out.mu (Shr.expect _)
    clear hT hf hi
    have hlD:=HD6.out.lt
    go_wp2_with fail
    clear hlD
    refine(HTY.out s6 _ (by exact HI6.out.f [w1.heap.size] H.out) (by omega)).mono ?_
    rintro e w7 ⟨v7,x7,s7,rfl,hq7,hf,hi,hv⟩
    obtain⟨cs,rfl,hrep⟩:=hv
    obtain⟨s7_0,p7_1,n7_1,c7_1,i7_2,rfl⟩:=hrep.c_typeQ
    have hV7:=hrep.k (N':=(fun k=>w.heap.size≤k∧k≠w.heap.size∧k≠w1.heap.size)) (Fr.refl [] _)
    obtain⟨hT,HB7,HI7,HF7,hz7⟩:=IR.st [w1.heap.size] HB6.out HF6.out hf hi
    try simp at hz7
    have HD7:=hid (HD6.out.k hf)
    have HV7:=hid hV7
    have hl7:=hq7.out.mu (shr_typeF _ _)
    clear hT hf hi hV7 hrep
    have hlD:=HD7.out.lt
    obtain⟨d1,f1⟩:=HD7.out.df 1 (v:=.slice none 0 0) rfl
    go_wp2_with fail
    clear hlD d1 f1
    refine(rneed_q c s7 [62] _ (by exact HI7.out.f [w1.heap.size] H.out)).mono ?_
    rintro e w8 ⟨rfl,x8,s8,hq8,hf,hi⟩
    obtain⟨hT,HB8,HI8,HF8,hz8⟩:=IR.st [w1.heap.size] HB7.out HF7.out hf hi
    try simp at hz8
    have HD8:Hid (Blk w8 (w1.heap.size) 39 #[.string ⟨#[66,111,120]⟩,.slice (some ⟨w7.heap.size,0,none⟩) 1 1,.int .i64 x1]):=hid ((Blk.alloc (HD7.out.set 1 (.slice (some ⟨w7.heap.size,0,none⟩) 1 1)) _).k hf)
    have hN:Blk w8 (w7.heap.size) 39 #[.string s7_0,.slice p7_1 n7_1 c7_1,.int .i64 i7_2]:=Blk.keep (by repeat' (first|with_reducible refine Blk.new_at ?_|with_reducible refine Blk.alloc ?_ _|with_reducible refine Blk.other ?_ ?_ _|with_reducible refine Blk.setRow_other ?_ ?_|(simp;done)|(simp;omega))) hf (by simp;omega)
    have hNr:=rowk_one (N:=(fun k=>w.heap.size≤k∧k≠w.heap.size∧k≠w1.heap.size)) (f:=typeQ) (a:=x7) hN (by (try simp);omega) rfl (repk HV7.out hT (fun k hk hl=>by simp at hk hl ⊢;omega))
    have HN7_8:=hid hNr
    clear hN hNr
    have HV7_8:=hid (HV7.out.ks hT)
    have hl8:=hq8.out.mu (Shr.expect _)
    clear hT hf hi
    have hlB:w.heap.size<w8.heap.size:=by omega
    have hlD:=HD8.out.lt
    have d0:=HD8.out.at 0 (v:=.string ⟨#[66,111,120]⟩) rfl
    have d1:=HD8.out.at 1 (v:=.slice (some ⟨w7.heap.size,0,none⟩) 1 1) rfl
    have d2:=HD8.out.at 2 (v:=.int .i64 x1) rfl
    obtain⟨b0,g0⟩:=HB8.out.df 0 (v:=.string ⟨#[]⟩) rfl
    obtain⟨b1,g1⟩:=HB8.out.df 1 (v:=.slice none 0 0) rfl
    obtain⟨b2,g2⟩:=HB8.out.df 2 (v:=.int .i64 0) rfl
    go_wp2_with fail
    refine bodyPost_ret (v:=.agg #[.string ⟨#[66,111,120]⟩,.slice (some ⟨w7.heap.size,0,none⟩) 1 1,.int .i64 x1]) (by simp[results,Tryz.results66,go_sem,hlB,hlD,d0,d1,d2,b0,g0,b1,g1,b2,g2]) rfl ?_
    clear hlB hlD d0 d1 d2 b0 g0 b1 g1 b2 g2
    exact RD.mk (.mk [66,111,120] [x7] x1) s8 (by unfold refT;refine .bind hq1.out<|.bn hq2.out ?_;refine .bn hq3.out<|.by hq5.out ?_;refine .bind hq6.out<|.bind hq7.out<|.bind hq8.out ?_;exact Rel.pure _ _) (HF8.out.jf [w1.heap.size,w.heap.size]) (HI8.out.f [w1.heap.size,w.heap.size] H.out) ⟨[.string ⟨#[66,111,120]⟩,.slice (some ⟨w7.heap.size,0,none⟩) 1 1,.int .i64 x1],rfl,by rw[typeQ_mk];exact rep_str.2 ⟨_,rfl,rep_sl.2 ⟨_,_,rfl,(HN7_8.out.f [w1.heap.size,w.heap.size]),rep_int.2 ⟨_,rfl,rep_nil.2 rfl⟩⟩⟩⟩
   ·skip
    obtain⟨hT,HB4,HI4,HF4,hz4⟩:=IR.st [w1.heap.size] HB3.out HF3.out hf hi
    try simp at hz4
    have HD4:=hid (HD3.out.k hf)
    clear hT hf hi
    have hlD:=HD4.out.lt
    go_wp2_with fail
    clear hlD
    refine(ris_q c s1 [67,104,97,110] _ (by exact HI4.out.f [w1.heap.size] H.out)).mono ?_
    rintro e w9 (⟨hx9,hm9,rfl,hf,hi⟩|⟨hq9,rfl,hf,hi⟩)
    ·skip
     obtain⟨hT,HB9,HI9,HF9,hz9⟩:=IR.st [w1.heap.size] HB4.out HF4.out hf hi
     try simp at hz9
     have HD9:=hid (HD4.out.k hf)
     clear hT hf hi
     obtain⟨t,r,rfl,hw9⟩:∃ t r,s1=.live (t :: r)∧t.text=[67,104,97,110]:=live_word hx9.out hm9 (by decide)
     obtain⟨k,cap,ad,hb,ht,hk,hts,hc⟩:=HI9.out.cells
     obtain⟨rfl,hcap,c0,c1,c2,c3⟩:=hc t r rfl
     have hlt:k<c.L.length:=by simp at hk;omega
     have hd:decide ((k:Int)<(c.L.length:Int))=true:=by simp;omega
     have hd2:decide (k<c.L.length)=true:=by simp;omega
     have hk6:k≤6000:=by have:=HI9.out.few;omega
     have HDR:Hid (r=c.L.drop (k+1)):=hid (by rw[← List.tail_drop,← hts];rfl)
     have HBR:=hid hb
     have HTV:=hid ht
     have g0:=HBR.out.cell 0
     have g1:=HBR.out.cell 1
     have f1:=HBR.out.frozen 1
     simp at g0 g1
     have hRw:c.R<w9.heap.size:=HI9.out.lt.1
     have hTw:c.Tb<w9.heap.size:=HI9.out.lt.2
     have hne:=HI9.out.ne
     have hTD:c.Tb≠w1.heap.size:=by have:=H.out.lt.2;omega
     have hRD:c.R≠w1.heap.size:=by omega
     have hDR:w1.heap.size≠c.R:=by omega
     have hDT:w1.heap.size≠c.Tb:=by omega
     rw[hw9] at c1
     have hlD:=HD9.out.lt
     obtain⟨d0,f0⟩:=HD9.out.df 0 (v:=.string ⟨#[]⟩) rfl
     clear hb ht hk hts hc
     go_wp2_with fail
     go_region
     go_wp2_with fail
     clear g0 g1 f1 c0 c1 c2 c3 hd hd2 hlD d0 f0
     generalize hE:World.drew _=w10
     have hfe:Fr [c.R,w1.heap.size] w9 w10:=by rw[← hE];exact frk
     have hz10:w9.heap.size≤w10.heap.size:=hfe.size
     have HI10:Hid (IR c (.live r) w10):=hid (HI9.out.turn2 (s':=.live r) hfe (by simp;omega) HTV.out (k+1) 0 0 (by rw[← hE];exact Blk.set (Blk.other HBR.out hRD _) 1 _) (by omega) ⟨rfl,rfl,HDR.out⟩)
     have HD10:Hid (Blk w10 (w1.heap.size) 39 #[.string ⟨#[67,104,97,110]⟩,.slice none 0 0,.int .i64 x1]):=hid (by rw[← hE];exact Blk.other (Blk.set HD9.out 0 _) hDR _)
     have HB10:Hid (Blk w10 (w.heap.size) 39 #[zS,zN,zI]):=hid (HB9.out.keep hfe (by simp;omega))
     have HF10:=hid (HF9.out.j hfe)
     have hq10:Hid (Rel c.size (Px.accept [[67,104,97,110]]) (.live (t :: r)) true (.live r)):=hid (Rel.take_true (by rw[hw9];decide))
     have hl10:(RS.live r).mu<(RS.live (t :: r)).mu:=by simp[RS.mu]
     clear hE hfe hRw hTw hne hTD hRD hDR hDT hlt
     refine(rneed_q c (RS.live r) [60] _ (by exact HI10.out.f [w1.heap.size] H.out)).mono ?_
     rintro e w11 ⟨rfl,x11,s11,hq11,hf,hi⟩
     obtain⟨hT,HB11,HI11,HF11,hz11⟩:=IR.st [w1.heap.size] HB10.out HF10.out hf hi
     try simp at hz11
     have HD11:=hid (HD10.out.k hf)
     have hl11:=hq11.out.mu (Shr.expect _)
     clear hT hf hi
     have hlD:=HD11.out.lt
     go_wp2_with fail
     clear hlD
     refine(HTY.out s11 _ (by exact HI11.out.f [w1.heap.size] H.out) (by omega)).mono ?_
     rintro e w12 ⟨v12,x12,s12,rfl,hq12,hf,hi,hv⟩
     obtain⟨cs,rfl,hrep⟩:=hv
     obtain⟨s12_0,p12_1,n12_1,c12_1,i12_2,rfl⟩:=hrep.c_typeQ
     have hV12:=hrep.k (N':=(fun k=>w.heap.size≤k∧k≠w.heap.size∧k≠w1.heap.size)) (Fr.refl [] _)
     obtain⟨hT,HB12,HI12,HF12,hz12⟩:=IR.st [w1.heap.size] HB11.out HF11.out hf hi
     try simp at hz12
     have HD12:=hid (HD11.out.k hf)
     have HV12:=hid hV12
     have hl12:=hq12.out.mu (shr_typeF _ _)
     clear hT hf hi hV12 hrep
     have hlD:=HD12.out.lt
     obtain⟨d1,f1⟩:=HD12.out.df 1 (v:=.slice none 0 0) rfl
     go_wp2_with fail
     clear hlD d1 f1
     refine(rneed_q c s12 [62] _ (by exact HI12.out.f [w1.heap.size] H.out)).mono ?_
     rintro e w13 ⟨rfl,x13,s13,hq13,hf,hi⟩
     obtain⟨hT,HB13,HI13,HF13,hz13⟩:=IR.st [w1.heap.size] HB12.out HF12.out hf hi
     try simp at hz13
     have HD13:Hid (Blk w13 (w1.heap.size) 39 #[.string ⟨#[67,104,97,110]⟩,.slice (some ⟨w12.heap.size,0,none⟩) 1 1,.int .i64 x1]):=hid ((Blk.alloc (HD12.out.set 1 (.slice (some ⟨w12.heap.size,0,none⟩) 1 1)) _).k hf)
     have hN:Blk w13 (w12.heap.size) 39 #[.string s12_0,.slice p12_1 n12_1 c12_1,.int .i64 i12_2]:=Blk.keep (by repeat' (first|with_reducible refine Blk.new_at ?_|with_reducible refine Blk.alloc ?_ _|with_reducible refine Blk.other ?_ ?_ _|with_reducible refine Blk.setRow_other ?_ ?_|(simp;done)|(simp;omega))) hf (by simp;omega)
     have hNr:=rowk_one (N:=(fun k=>w.heap.size≤k∧k≠w.heap.size∧k≠w1.heap.size)) (f:=typeQ) (a:=x12) hN (by (try simp);omega) rfl (repk HV12.out hT (fun k hk hl=>by simp at hk hl ⊢;omega))
     have HN12_13:=hid hNr
     clear hN hNr
     have HV12_13:=hid (HV12.out.ks hT)
     have hl13:=hq13.out.mu (Shr.expect _)
     clear hT hf hi
     have hlB:w.heap.size<w13.heap.size:=by omega
     have hlD:=HD13.out.lt
     have d0:=HD13.out.at 0 (v:=.string ⟨#[67,104,97,110]⟩) rfl
     have d1:=HD13.out.at 1 (v:=.slice (some ⟨w12.heap.size,0,none⟩) 1 1) rfl
     have d2:=HD13.out.at 2 (v:=.int .i64 x1) rfl
     obtain⟨b0,g0⟩:=HB13.out.df 0 (v:=.string ⟨#[]⟩) rfl
     obtain⟨b1,g1⟩:=HB13.out.df 1 (v:=.slice none 0 0) rfl
     obtain⟨b2,g2⟩:=HB13.out.df 2 (v:=.int .i64 0) rfl
     go_wp2_with fail
     refine bodyPost_ret (v:=.agg #[.string ⟨#[67,104,97,110]⟩,.slice (some ⟨w12.heap.size,0,none⟩) 1 1,.int .i64 x1]) (by simp[results,Tryz.results66,go_sem,hlB,hlD,d0,d1,d2,b0,g0,b1,g1,b2,g2]) rfl ?_
     clear hlB hlD d0 d1 d2 b0 g0 b1 g1 b2 g2
     exact RD.mk (.mk [67,104,97,110] [x12] x1) s13 (by unfold refT;refine .bind hq1.out<|.bn hq2.out ?_;refine .bn hq3.out<|.bn hq4.out ?_;refine .by hq10.out<|.bind hq11.out ?_;refine .bind hq12.out<|.bind hq13.out ?_;exact Rel.pure _ _) (HF13.out.jf [w1.heap.size,w.heap.size]) (HI13.out.f [w1.heap.size,w.heap.size] H.out) ⟨[.string ⟨#[67,104,97,110]⟩,.slice (some ⟨w12.heap.size,0,none⟩) 1 1,.int .i64 x1],rfl,by rw[typeQ_mk];exact rep_str.2 ⟨_,rfl,rep_sl.2 ⟨_,_,rfl,(HN12_13.out.f [w1.heap.size,w.heap.size]),rep_int.2 ⟨_,rfl,rep_nil.2 rfl⟩⟩⟩⟩
    ·skip
     obtain⟨hT,HB9,HI9,HF9,hz9⟩:=IR.st [w1.heap.size] HB4.out HF4.out hf hi
     try simp at hz9
     have HD9:=hid (HD4.out.k hf)
     clear hT hf hi
     have hlD:=HD9.out.lt
     go_wp2_with fail
     clear hlD
     refine(ris_q c s1 [38] _ (by exact HI9.out.f [w1.heap.size] H.out)).mono ?_
     rintro e w14 (⟨hx14,hm14,rfl,hf,hi⟩|⟨hq14,rfl,hf,hi⟩)
     ·skip
      obtain⟨hT,HB14,HI14,HF14,hz14⟩:=IR.st [w1.heap.size] HB9.out HF9.out hf hi
      try simp at hz14
      have HD14:=hid (HD9.out.k hf)
      clear hT hf hi
      obtain⟨t,r,rfl,hw14⟩:∃ t r,s1=.live (t :: r)∧t.text=[38]:=live_word hx14.out hm14 (by decide)
      obtain⟨k,cap,ad,hb,ht,hk,hts,hc⟩:=HI14.out.cells
      obtain⟨rfl,hcap,c0,c1,c2,c3⟩:=hc t r rfl
      have hlt:k<c.L.length:=by simp at hk;omega
      have hd:decide ((k:Int)<(c.L.length:Int))=true:=by simp;omega
      have hd2:decide (k<c.L.length)=true:=by simp;omega
      have hk6:k≤6000:=by have:=HI14.out.few;omega
      have HDR:Hid (r=c.L.drop (k+1)):=hid (by rw[← List.tail_drop,← hts];rfl)
      have HBR:=hid hb
      have HTV:=hid ht
      have g0:=HBR.out.cell 0
      have g1:=HBR.out.cell 1
      have f1:=HBR.out.frozen 1
      simp at g0 g1
      have hRw:c.R<w14.heap.size:=HI14.out.lt.1
      have hTw:c.Tb<w14.heap.size:=HI14.out.lt.2
      have hne:=HI14.out.ne
      have hTD:c.Tb≠w1.heap.size:=by have:=H.out.lt.2;omega
      have hRD:c.R≠w1.heap.size:=by omega
      have hDR:w1.heap.size≠c.R:=by omega
      have hDT:w1.heap.size≠c.Tb:=by omega
      rw[hw14] at c1
      have hlD:=HD14.out.lt
      obtain⟨d0,f0⟩:=HD14.out.df 0 (v:=.string ⟨#[]⟩) rfl
      clear hb ht hk hts hc
      go_wp2_with fail
      go_region
      go_wp2_with fail
      clear g0 g1 f1 c0 c1 c2 c3 hd hd2 hlD d0 f0
      generalize hE:World.drew _=w15
      have hfe:Fr [c.R,w1.heap.size] w14 w15:=by rw[← hE];exact frk
      have hz15:w14.heap.size≤w15.heap.size:=hfe.size
      have HI15:Hid (IR c (.live r) w15):=hid (HI14.out.turn2 (s':=.live r) hfe (by simp;omega) HTV.out (k+1) 0 0 (by rw[← hE];exact Blk.set (Blk.other HBR.out hRD _) 1 _) (by omega) ⟨rfl,rfl,HDR.out⟩)
      have HD15:Hid (Blk w15 (w1.heap.size) 39 #[.string ⟨#[38]⟩,.slice none 0 0,.int .i64 x1]):=hid (by rw[← hE];exact Blk.other (Blk.set HD14.out 0 _) hDR _)
      have HB15:Hid (Blk w15 (w.heap.size) 39 #[zS,zN,zI]):=hid (HB14.out.keep hfe (by simp;omega))
      have HF15:=hid (HF14.out.j hfe)
      have hq15:Hid (Rel c.size (Px.accept [[38]]) (.live (t :: r)) true (.live r)):=hid (Rel.take_true (by rw[hw14];decide))
      have hl15:(RS.live r).mu<(RS.live (t :: r)).mu:=by simp[RS.mu]
      clear hE hfe hRw hTw hne hTD hRD hDR hDT hlt
      refine(HTY.out (RS.live r) _ (by exact HI15.out.f [w1.heap.size] H.out) (by omega)).mono ?_
      rintro e w16 ⟨v16,x16,s16,rfl,hq16,hf,hi,hv⟩
      obtain⟨cs,rfl,hrep⟩:=hv
      obtain⟨s16_0,p16_1,n16_1,c16_1,i16_2,rfl⟩:=hrep.c_typeQ
      have hV16:=hrep.k (N':=(fun k=>w.heap.size≤k∧k≠w.heap.size∧k≠w1.heap.size)) (Fr.refl [] _)
      obtain⟨hT,HB16,HI16,HF16,hz16⟩:=IR.st [w1.heap.size] HB15.out HF15.out hf hi
      try simp at hz16
      have HD16:=hid (HD15.out.k hf)
      have HV16:=hid hV16
      have hl16:=hq16.out.mu (shr_typeF _ _)
      clear hT hf hi hV16 hrep
      have hlB:w.heap.size<w16.heap.size:=by omega
      have hlD:=HD16.out.lt
      have d0:=HD16.out.at 0 (v:=.string ⟨#[38]⟩) rfl
      obtain⟨d1,f1⟩:=HD16.out.df 1 (v:=.slice none 0 0) rfl
      have d2:=HD16.out.at 2 (v:=.int .i64 x1) rfl
      obtain⟨b0,g0⟩:=HB16.out.df 0 (v:=.string ⟨#[]⟩) rfl
      obtain⟨b1,g1⟩:=HB16.out.df 1 (v:=.slice none 0 0) rfl
      obtain⟨b2,g2⟩:=HB16.out.df 2 (v:=.int .i64 0) rfl
      go_wp2_with fail
      refine bodyPost_ret (v:=.agg #[.string ⟨#[38]⟩,.slice (some ⟨w16.heap.size,0,none⟩) 1 1,.int .i64 x1]) (by simp[results,Tryz.results66,go_sem,hlB,hlD,d0,d1,f1,d2,b0,g0,b1,g1,b2,g2]) rfl ?_
      clear hlB hlD d0 d1 f1 d2 b0 g0 b1 g1 b2 g2
      exact RD.mk (.mk [38] [x16] x1) s16 (by unfold refT;refine .bind hq1.out<|.bn hq2.out ?_;refine .bn hq3.out<|.bn hq4.out ?_;refine .bn hq9.out<|.by hq15.out<|.bind hq16.out ?_;exact Rel.pure _ _) (HF16.out.jf [w1.heap.size,w.heap.size]) (HI16.out.f [w1.heap.size,w.heap.size] H.out) ⟨[.string ⟨#[38]⟩,.slice (some ⟨w16.heap.size,0,none⟩) 1 1,.int .i64 x1],rfl,by rw[typeQ_mk];exact rep_str.2 ⟨_,rfl,rep_sl.2 ⟨_,_,rfl,(rowk_one (N:=(fun k=>w.heap.size≤k)) (f:=typeQ) (a:=x16) (w:=_) (g:=w16.heap.size) (xs:=[.string s16_0,.slice p16_1 n16_1 c16_1,.int .i64 i16_2]) (by repeat' (first|with_reducible refine Blk.new_at ?_|with_reducible refine Blk.alloc ?_ _|with_reducible refine Blk.other ?_ ?_ _|with_reducible refine Blk.setRow_other ?_ ?_|(simp;done)|(simp;omega))) (by (try simp);omega) rfl (HV16.out.f [w1.heap.size,w.heap.size])),rep_int.2 ⟨_,rfl,rep_nil.2 rfl⟩⟩⟩⟩
     ·skip
      obtain⟨hT,HB14,HI14,HF14,hz14⟩:=IR.st [w1.heap.size] HB9.out HF9.out hf hi
      try simp at hz14
      have HD14:=hid (HD9.out.k hf)
      clear hT hf hi
      have hlD:=HD14.out.lt
      go_wp2_with fail
      clear hlD
      refine(ris_q c s1 [38,33] _ (by exact HI14.out.f [w1.heap.size] H.out)).mono ?_
      rintro e w17 (⟨hx17,hm17,rfl,hf,hi⟩|⟨hq17,rfl,hf,hi⟩)
      ·skip
       obtain⟨hT,HB17,HI17,HF17,hz17⟩:=IR.st [w1.heap.size] HB14.out HF14.out hf hi
       try simp at hz17
       have HD17:=hid (HD14.out.k hf)
       clear hT hf hi
       obtain⟨t,r,rfl,hw17⟩:∃ t r,s1=.live (t :: r)∧t.text=[38,33]:=live_word hx17.out hm17 (by decide)
       obtain⟨k,cap,ad,hb,ht,hk,hts,hc⟩:=HI17.out.cells
       obtain⟨rfl,hcap,c0,c1,c2,c3⟩:=hc t r rfl
       have hlt:k<c.L.length:=by simp at hk;omega
       have hd:decide ((k:Int)<(c.L.length:Int))=true:=by simp;omega
       have hd2:decide (k<c.L.length)=true:=by simp;omega
       have hk6:k≤6000:=by have:=HI17.out.few;omega
       have HDR:Hid (r=c.L.drop (k+1)):=hid (by rw[← List.tail_drop,← hts];rfl)
       have HBR:=hid hb
       have HTV:=hid ht
       have g0:=HBR.out.cell 0
       have g1:=HBR.out.cell 1
       have f1:=HBR.out.frozen 1
       simp at g0 g1
       have hRw:c.R<w17.heap.size:=HI17.out.lt.1
       have hTw:c.Tb<w17.heap.size:=HI17.out.lt.2
       have hne:=HI17.out.ne
       have hTD:c.Tb≠w1.heap.size:=by have:=H.out.lt.2;omega
       have hRD:c.R≠w1.heap.size:=by omega
       have hDR:w1.heap.size≠c.R:=by omega
       have hDT:w1.heap.size≠c.Tb:=by omega
       rw[hw17] at c1
       have hlD:=HD17.out.lt
       obtain⟨d0,f0⟩:=HD17.out.df 0 (v:=.string ⟨#[]⟩) rfl
       clear hb ht hk hts hc
       go_wp2_with fail
       go_region
       go_wp2_with fail
       clear g0 g1 f1 c0 c1 c2 c3 hd hd2 hlD d0 f0
       generalize hE:World.drew _=w18
       have hfe:Fr [c.R,w1.heap.size] w17 w18:=by rw[← hE];exact frk
       have hz18:w17.heap.size≤w18.heap.size:=hfe.size
       have HI18:Hid (IR c (.live r) w18):=hid (HI17.out.turn2 (s':=.live r) hfe (by simp;omega) HTV.out (k+1) 0 0 (by rw[← hE];exact Blk.set (Blk.other HBR.out hRD _) 1 _) (by omega) ⟨rfl,rfl,HDR.out⟩)
       have HD18:Hid (Blk w18 (w1.heap.size) 39 #[.string ⟨#[38,33]⟩,.slice none 0 0,.int .i64 x1]):=hid (by rw[← hE];exact Blk.other (Blk.set HD17.out 0 _) hDR _)
       have HB18:Hid (Blk w18 (w.heap.size) 39 #[zS,zN,zI]):=hid (HB17.out.keep hfe (by simp;omega))
       have HF18:=hid (HF17.out.j hfe)
       have hq18:Hid (Rel c.size (Px.accept [[38,33]]) (.live (t :: r)) true (.live r)):=hid (Rel.take_true (by rw[hw17];decide))
       have hl18:(RS.live r).mu<(RS.live (t :: r)).mu:=by simp[RS.mu]
       clear hE hfe hRw hTw hne hTD hRD hDR hDT hlt
       refine(HTY.out (RS.live r) _ (by exact HI18.out.f [w1.heap.size] H.out) (by omega)).mono ?_
       rintro e w19 ⟨v19,x19,s19,rfl,hq19,hf,hi,hv⟩
       obtain⟨cs,rfl,hrep⟩:=hv
       obtain⟨s19_0,p19_1,n19_1,c19_1,i19_2,rfl⟩:=hrep.c_typeQ
       have hV19:=hrep.k (N':=(fun k=>w.heap.size≤k∧k≠w.heap.size∧k≠w1.heap.size)) (Fr.refl [] _)
       obtain⟨hT,HB19,HI19,HF19,hz19⟩:=IR.st [w1.heap.size] HB18.out HF18.out hf hi
       try simp at hz19
       have HD19:=hid (HD18.out.k hf)
       have HV19:=hid hV19
       have hl19:=hq19.out.mu (shr_typeF _ _)
       clear hT hf hi hV19 hrep
       have hlB:w.heap.size<w19.heap.size:=by omega
       have hlD:=HD19.out.lt
       have d0:=HD19.out.at 0 (v:=.string ⟨#[38,33]⟩) rfl
       obtain⟨d1,f1⟩:=HD19.out.df 1 (v:=.slice none 0 0) rfl
       have d2:=HD19.out.at 2 (v:=.int .i64 x1) rfl
       obtain⟨b0,g0⟩:=HB19.out.df 0 (v:=.string ⟨#[]⟩) rfl
       obtain⟨b1,g1⟩:=HB19.out.df 1 (v:=.slice none 0 0) rfl
       obtain⟨b2,g2⟩:=HB19.out.df 2 (v:=.int .i64 0) rfl
       go_wp2_with fail
       refine bodyPost_ret (v:=.agg #[.string ⟨#[38,33]⟩,.slice (some ⟨w19.heap.size,0,none⟩) 1 1,.int .i64 x1]) (by simp[results,Tryz.results66,go_sem,hlB,hlD,d0,d1,f1,d2,b0,g0,b1,g1,b2,g2]) rfl ?_
       clear hlB hlD d0 d1 f1 d2 b0 g0 b1 g1 b2 g2
       exact RD.mk (.mk [38,33] [x19] x1) s19 (by unfold refT;refine .bind hq1.out<|.bn hq2.out ?_;refine .bn hq3.out<|.bn hq4.out ?_;refine .bn hq9.out<|.bn hq14.out ?_;refine .by hq18.out<|.bind hq19.out ?_;exact Rel.pure _ _) (HF19.out.jf [w1.heap.size,w.heap.size]) (HI19.out.f [w1.heap.size,w.heap.size] H.out) ⟨[.string ⟨#[38,33]⟩,.slice (some ⟨w19.heap.size,0,none⟩) 1 1,.int .i64 x1],rfl,by rw[typeQ_mk];exact rep_str.2 ⟨_,rfl,rep_sl.2 ⟨_,_,rfl,(rowk_one (N:=(fun k=>w.heap.size≤k)) (f:=typeQ) (a:=x19) (w:=_) (g:=w19.heap.size) (xs:=[.string s19_0,.slice p19_1 n19_1 c19_1,.int .i64 i19_2]) (by repeat' (first|with_reducible refine Blk.new_at ?_|with_reducible refine Blk.alloc ?_ _|with_reducible refine Blk.other ?_ ?_ _|with_reducible refine Blk.setRow_other ?_ ?_|(simp;done)|(simp;omega))) (by (try simp);omega) rfl (HV19.out.f [w1.heap.size,w.heap.size])),rep_int.2 ⟨_,rfl,rep_nil.2 rfl⟩⟩⟩⟩
      ·skip
       obtain⟨hT,HB17,HI17,HF17,hz17⟩:=IR.st [w1.heap.size] HB14.out HF14.out hf hi
       try simp at hz17
       have HD17:=hid (HD14.out.k hf)
       clear hT hf hi
       have hlD:=HD17.out.lt
       go_wp2_with fail
       clear hlD
       refine(rname_any c s1 _ (by exact HI17.out.f [w1.heap.size] H.out)).mono ?_
       rintro e w20 ⟨_,x20,s20,rfl,hq20,hf,hi,rfl⟩
       obtain⟨hT,HB20,HI20,HF20,hz20⟩:=IR.st [w1.heap.size] HB17.out HF17.out hf hi
       try simp at hz20
       have HD20:=hid (HD17.out.k hf)
       have hl20:=hq20.out.mu Shr.name
       clear hT hf hi
       have hlD:=HD20.out.lt
       obtain⟨d0,f0⟩:=HD20.out.df 0 (v:=.string ⟨#[]⟩) rfl
       go_wp2_with fail
       clear hlD d0 f0
       refine(rnext_q c s20 [60] _ (by exact HI20.out.f [w1.heap.size] H.out)).mono ?_
       rintro e w21 (⟨s21,hq21,hl21,rfl,hf,hi⟩|⟨hq21,rfl,hf,hi⟩)
       ·skip
        obtain⟨hT,HB21,HI21,HF21,hz21⟩:=IR.st [w1.heap.size] HB20.out HF20.out hf hi
        try simp at hz21
        have HD21:Hid (Blk w21 (w1.heap.size) 39 #[.string ⟨x20.toArray⟩,zN,.int .i64 x1]):=hid ((HD20.out.set 0 (.string ⟨x20.toArray⟩)).k hf)
        clear hT hf hi
        have hlD:=HD21.out.lt
        go_wp2_with fail
        clear hlD
        refine(rtypes_any c n s.mu [62] (by decide) (by decide) HTY.out s21 _ (by exact HI21.out.f [w1.heap.size] H.out) (by omega)).mono ?_
        rintro e w22 ⟨v22,x22,s22,rfl,hq22,hf,hi,hv⟩
        obtain⟨p22,n22,k22,rfl⟩:=row_shp hv
        have hV22:=(row_of hv).k (N':=(fun k=>w.heap.size≤k∧k≠w.heap.size∧k≠w1.heap.size)) (Fr.refl [] _)
        obtain⟨hT,HB22,HI22,HF22,hz22⟩:=IR.st [w1.heap.size] HB21.out HF21.out hf hi
        try simp at hz22
        have HD22:=hid (HD21.out.k hf)
        have HV22:=hid hV22
        clear hT hf hi hV22 hv
        have hlB:w.heap.size<w22.heap.size:=by omega
        have hlD:=HD22.out.lt
        have d0:=HD22.out.at 0 (v:=.string ⟨x20.toArray⟩) rfl
        obtain⟨d1,f1⟩:=HD22.out.df 1 (v:=.slice none 0 0) rfl
        have d2:=HD22.out.at 2 (v:=.int .i64 x1) rfl
        obtain⟨b0,g0⟩:=HB22.out.df 0 (v:=.string ⟨#[]⟩) rfl
        obtain⟨b1,g1⟩:=HB22.out.df 1 (v:=.slice none 0 0) rfl
        obtain⟨b2,g2⟩:=HB22.out.df 2 (v:=.int .i64 0) rfl
        go_wp2_with fail
        refine bodyPost_ret (v:=.agg #[.string ⟨x20.toArray⟩,.slice p22 n22 k22,.int .i64 x1]) (by simp[results,Tryz.results66,go_sem,hlB,hlD,d0,d1,f1,d2,b0,g0,b1,g1,b2,g2]) rfl ?_
        clear hlB hlD d0 d1 f1 d2 b0 g0 b1 g1 b2 g2
        exact RD.mk (.mk x20 x22 x1) s22 (by unfold refT;refine .bind hq1.out<|.bn hq2.out ?_;refine .bn hq3.out<|.bn hq4.out ?_;refine .bn hq9.out<|.bn hq14.out ?_;refine .bn hq17.out<|.bind hq20.out ?_;exact Rel.bind (Rel.optYes' hq21.out hq22.out) (Rel.pure _ _)) (HF22.out.jf [w1.heap.size,w.heap.size]) (HI22.out.f [w1.heap.size,w.heap.size] H.out) ⟨_,rfl,by rw[typeQ_mk];exact rep_str.2 ⟨_,rfl,rep_sl.2 ⟨_,_,rfl,(HV22.out.f [w1.heap.size,w.heap.size]),rep_int.2 ⟨_,rfl,rep_nil.2 rfl⟩⟩⟩⟩
       ·skip
        obtain⟨hT,HB21,HI21,HF21,hz21⟩:=IR.st [w1.heap.size] HB20.out HF20.out hf hi
        try simp at hz21
        have HD21:Hid (Blk w21 (w1.heap.size) 39 #[.string ⟨x20.toArray⟩,zN,.int .i64 x1]):=hid ((HD20.out.set 0 (.string ⟨x20.toArray⟩)).k hf)
        clear hT hf hi
        have hlB:w.heap.size<w21.heap.size:=by omega
        have hlD:=HD21.out.lt
        have d0:=HD21.out.at 0 (v:=.string ⟨x20.toArray⟩) rfl
        have d1:=HD21.out.at 1 (v:=.slice none 0 0) rfl
        have d2:=HD21.out.at 2 (v:=.int .i64 x1) rfl
        obtain⟨b0,g0⟩:=HB21.out.df 0 (v:=.string ⟨#[]⟩) rfl
        obtain⟨b1,g1⟩:=HB21.out.df 1 (v:=.slice none 0 0) rfl
        obtain⟨b2,g2⟩:=HB21.out.df 2 (v:=.int .i64 0) rfl
        go_wp2_with fail
        refine bodyPost_ret (v:=.agg #[.string ⟨x20.toArray⟩,.slice none 0 0,.int .i64 x1]) (by simp[results,Tryz.results66,go_sem,hlB,hlD,d0,d1,d2,b0,g0,b1,g1,b2,g2]) rfl ?_
        clear hlB hlD d0 d1 d2 b0 g0 b1 g1 b2 g2
        exact RD.mk (.mk x20 [] x1) s20 (by unfold refT;refine .bind hq1.out<|.bn hq2.out ?_;refine .bn hq3.out<|.bn hq4.out ?_;refine .bn hq9.out<|.bn hq14.out ?_;refine .bn hq17.out<|.bind hq20.out ?_;exact Rel.bind (Rel.optNo hq21.out) (Rel.pure _ _)) (HF21.out.jf [w1.heap.size,w.heap.size]) (HI21.out.f [w1.heap.size,w.heap.size] H.out) ⟨_,rfl,by rw[typeQ_mk];exact rep_str.2 ⟨_,rfl,rep_sl.2 ⟨_,_,rfl,RowV.nil _ _ _ _,rep_int.2 ⟨_,rfl,rep_nil.2 rfl⟩⟩⟩⟩
theorem rtyped_any (c:RCtx):∀ (m n:Nat) (s:RS) (w:World),IR c s w→s.mu≤m→s.mu≤n→Calls Tryz.prog 66 #[.pointer (some ⟨c.R,0,none⟩)] w (RD c w (okAgg typeQ) (Px.typeF c.size n) s)
 | 0,n,s,w,h,hm,hn=>(rtyped_step c 0 s w h (fun s' w' _ hl=>absurd hl (by omega))).mono fun e w' hp=>hp.conv (fun a s' hr=>hr.dead (by omega))
 | m+1,0,s,w,h,hm,hn=>(rtyped_step c 0 s w h (fun s' w' _ hl=>absurd hl (by omega))).mono fun e w' hp=>hp.conv (fun a s' hr=>hr.dead (by omega))
 | m+1,n+1,s,w,h,hm,hn=>(rtyped_step c n s w h (fun s' w' h' hl=>rtyped_any c m n s' w' h' (by omega) (by omega))).mono fun e w' hp=>hp.conv (fun a s' hr=>hr.of_eq (refT_eq c.size n))
theorem typed_RL (c:RCtx) (n:Nat):RL c 66 (n+1) (okAgg typeQ) (Px.typeF c.size n):=fun s w h hm=>rtyped_any c n n s w h (by omega) (by omega)
end Go.Proofs.YtghohohagbbajaaGreatDoor
