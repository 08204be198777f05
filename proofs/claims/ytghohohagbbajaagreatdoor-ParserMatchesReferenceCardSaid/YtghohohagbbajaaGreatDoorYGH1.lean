/- part of the proof -/
import Derived.Test.YtghohohagbbajaaGreatDoorYBG
set_option linter.unusedVariables false
set_option linter.unusedSimpArgs false
set_option linter.unusedSectionVars false
namespace Go.Proofs.YtghohohagbbajaaGreatDoor
open Go.RowKit Go.Lib
open Lx (Tk)
open Px (Txt TyE VarD DataD TraitD BoundD ImplD ArgD ExprD StmtD ArmD FuncD ModD)
theorem parse1 (w:World) (hL:Libs w):Calls Tryz.prog 5 #[.string pt1] w fun e w'=>e=.returned (.tuple #[.agg #[.string ⟨#[109]⟩,.slice none 0 0,.slice none 0 0,.slice none 0 0,.slice none 0 0,.slice none 0 0],.int .i64 0,.int .i64 0])∧Fr [] w w':=by
 refine(parse_spec pt1 w (by decide) hL _ ptr1).mono ?_
 rintro e w' ⟨hf,cs,rfl,h⟩
 replace h:=rep_str.1 h
 obtain⟨cs,rfl,h⟩:=h
 replace h:=rep_sl.1 h
 obtain⟨v1,cs,rfl,h1,h⟩:=h
 replace h:=rep_sl.1 h
 obtain⟨v2,cs,rfl,h2,h⟩:=h
 replace h:=rep_sl.1 h
 obtain⟨v3,cs,rfl,h3,h⟩:=h
 replace h:=rep_sl.1 h
 obtain⟨v4,cs,rfl,h4,h⟩:=h
 replace h:=rep_sl.1 h
 obtain⟨v5,cs,rfl,h5,h⟩:=h
 replace h:=rep_nil.1 h
 obtain rfl:=h
 obtain rfl:=h1.none
 obtain rfl:=h2.none
 obtain rfl:=h3.none
 obtain rfl:=h4.none
 obtain rfl:=h5.none
 exact⟨rfl,hf⟩
def FAt (w:World) (g g2 c2:Nat):Prop:=g<w.heap.size∧g2<w.heap.size∧w.cell? ⟨g,8,none⟩=some (.slice (some ⟨g2,0,none⟩) 2 c2) ∧
 (∀ j,j<17→w.cell? ⟨g2,j,none⟩=[.int .i64 1,.string ⟨#[120]⟩,.slice none 0 0,.slice none 0 0,.int .i64 1,.string ⟨#[]⟩,.string ⟨#[]⟩,.string ⟨#[]⟩,.slice none 0 0,.int .i64 5,.slice none 0 0,.int .i64 34,.slice none 0 0,.slice none 0 0,.slice none 0 0,.slice none 0 0,.int .i64 26][j]?)
theorem FAt.keep {w w':World} {g g2 c2:Nat} (h:FAt w g g2 c2) (hf:Fr [] w w'):FAt w' g g2 c2 :=
 ⟨Nat.lt_of_lt_of_le h.1 hf.size,Nat.lt_of_lt_of_le h.2.1 hf.size,(hf.cell h.1 (by simp) 8).trans h.2.2.1,fun j hj=>(hf.cell h.2.1 (by simp) j).trans (h.2.2.2 j hj)⟩
theorem parse2 (w:World) (hL:Libs w):Calls Tryz.prog 5 #[.string pt2] w fun e w'=>∃ g c g2 c2,e=.returned (.tuple #[.agg #[.string ⟨#[109]⟩,.slice none 0 0,.slice none 0 0,.slice none 0 0,.slice none 0 0,.slice (some ⟨g,0,none⟩) 1 c],.int .i64 0,.int .i64 0])∧1≤c∧2≤c2∧FAt w' g g2 c2∧Fr [] w w':=by
 refine(parse_spec pt2 w (by decide) hL _ ptr2).mono ?_
 rintro e w' ⟨hf,cs,rfl,h⟩
 replace h:=rep_str.1 h
 obtain⟨cs,rfl,h⟩:=h
 replace h:=rep_sl.1 h
 obtain⟨v1,cs,rfl,h1,h⟩:=h
 replace h:=rep_sl.1 h
 obtain⟨v2,cs,rfl,h2,h⟩:=h
 replace h:=rep_sl.1 h
 obtain⟨v3,cs,rfl,h3,h⟩:=h
 replace h:=rep_sl.1 h
 obtain⟨v4,cs,rfl,h4,h⟩:=h
 replace h:=rep_sl.1 h
 obtain⟨v5,cs,rfl,h5,h⟩:=h
 replace h:=rep_nil.1 h
 obtain rfl:=h
 obtain rfl:=h1.none
 obtain rfl:=h2.none
 obtain rfl:=h3.none
 obtain rfl:=h4.none
 obtain⟨g,c,xs,rfl,_,hg,hc,_,hl,hx,h⟩:=h5.get (by decide)
 rw[rowsQ_one,funcQ_mk,typeQ_mk] at h
 replace h:=rep_str.1 h
 obtain⟨cs,rfl,h⟩:=h
 replace h:=rep_sl.1 h
 obtain⟨u1,cs,rfl,_,h⟩:=h
 replace h:=rep_sl.1 h
 obtain⟨u2,cs,rfl,_,h⟩:=h
 replace h:=rep_sl.1 h
 obtain⟨u3,cs,rfl,_,h⟩:=h
 replace h:=rep_sl.1 h
 obtain⟨u4,cs,rfl,_,h⟩:=h
 replace h:=rep_str.1 h
 obtain⟨cs,rfl,h⟩:=h
 replace h:=rep_sl.1 h
 obtain⟨u5,cs,rfl,_,h⟩:=h
 replace h:=rep_int.1 h
 obtain⟨cs,rfl,h⟩:=h
 replace h:=rep_sl.1 h
 obtain⟨u6,cs,rfl,h6,h⟩:=h
 replace h:=rep_int.1 h
 obtain⟨cs,rfl,h⟩:=h
 replace h:=rep_nil.1 h
 obtain rfl:=h
 obtain⟨g2,c2,ys,rfl,_,hg2,hc2,_,hl2,hy,h⟩:=h6.get (by decide)
 rw[rowsQ,stmtQ_mk] at h
 replace h:=Rep.split h
 obtain⟨ys1,ys2,rfl,h,_⟩:=h
 replace h:=rep_int.1 h
 obtain⟨cs,rfl,h⟩:=h
 replace h:=rep_str.1 h
 obtain⟨cs,rfl,h⟩:=h
 replace h:=rep_sl.1 h
 obtain⟨v1,cs,rfl,k1,h⟩:=h
 replace h:=rep_sl.1 h
 obtain⟨v2,cs,rfl,k2,h⟩:=h
 replace h:=rep_int.1 h
 obtain⟨cs,rfl,h⟩:=h
 replace h:=rep_str.1 h
 obtain⟨cs,rfl,h⟩:=h
 replace h:=rep_str.1 h
 obtain⟨cs,rfl,h⟩:=h
 replace h:=rep_str.1 h
 obtain⟨cs,rfl,h⟩:=h
 replace h:=rep_sl.1 h
 obtain⟨v3,cs,rfl,k3,h⟩:=h
 replace h:=rep_int.1 h
 obtain⟨cs,rfl,h⟩:=h
 replace h:=rep_sl.1 h
 obtain⟨v4,cs,rfl,k4,h⟩:=h
 replace h:=rep_int.1 h
 obtain⟨cs,rfl,h⟩:=h
 replace h:=rep_sl.1 h
 obtain⟨v5,cs,rfl,k5,h⟩:=h
 replace h:=rep_sl.1 h
 obtain⟨v6,cs,rfl,k6,h⟩:=h
 replace h:=rep_sl.1 h
 obtain⟨v7,cs,rfl,k7,h⟩:=h
 replace h:=rep_sl.1 h
 obtain⟨v8,cs,rfl,k8,h⟩:=h
 replace h:=rep_int.1 h
 obtain⟨cs,rfl,h⟩:=h
 replace h:=rep_nil.1 h
 obtain rfl:=h
 obtain rfl:=k1.none
 obtain rfl:=k2.none
 obtain rfl:=k3.none
 obtain rfl:=k4.none
 obtain rfl:=k5.none
 obtain rfl:=k6.none
 obtain rfl:=k7.none
 obtain rfl:=k8.none
 refine⟨g,c,g2,c2,rfl,hc,hc2,⟨hg,hg2,hx 8 (by decide),fun j hj=>?_⟩,hf⟩
 rw[hy j (by simp;omega),List.getElem?_append_left (by simpa using hj)]
 rfl
theorem parse3 (w:World) (hL:Libs w):Calls Tryz.prog 5 #[.string pt3] w fun e w'=>e=.returned (.tuple #[zeroM,.int .i64 4,.int .i64 34])∧Fr [] w w' :=
 (parse_spec pt3 w (by decide) hL _ ptr3).mono fun _ _ h=>⟨h.2,h.1⟩
theorem parse4 (w:World) (hL:Libs w):Calls Tryz.prog 5 #[.string pt4] w fun e w'=>e=.returned (.tuple #[zeroM,.int .i64 5,.int .i64 14])∧Fr [] w w' :=
 (parse_spec pt4 w (by decide) hL _ ptr4).mono fun _ _ h=>⟨h.2,h.1⟩
theorem parse5 (w:World) (hL:Libs w):Calls Tryz.prog 5 #[.string pt5] w fun e w'=>e=.returned (.tuple #[zeroM,.int .i64 4,.int .i64 7])∧Fr [] w w' :=
 (parse_spec pt5 w (by decide) hL _ ptr5).mono fun _ _ h=>⟨h.2,h.1⟩
theorem parse6 (w:World) (hL:Libs w):Calls Tryz.prog 5 #[.string pt6] w fun e w'=>e=.returned (.tuple #[zeroM,.int .i64 3,.int .i64 10])∧Fr [] w w' :=
 (parse_spec pt6 w (by decide) hL _ ptr6).mono fun _ _ h=>⟨h.2,h.1⟩
def DAt (w:World) (g g2 c2 g3 c3 g4 c4:Nat):Prop:=g<w.heap.size∧g2<w.heap.size∧g3<w.heap.size∧g4<w.heap.size∧w.cell? ⟨g,2,none⟩=some (.slice (some ⟨g2,0,none⟩) 2 c2)∧w.cell? ⟨g,3,none⟩=some (.int .i64 3) ∧
 w.cell? ⟨g2,4,none⟩=some (.slice (some ⟨g3,0,none⟩) 2 c3)∧w.cell? ⟨g3,3,none⟩=some (.string ⟨#[66,111,120]⟩)∧w.cell? ⟨g3,4,none⟩=some (.slice (some ⟨g4,0,none⟩) 1 c4)∧w.cell? ⟨g3,5,none⟩=some (.int .i64 38)∧w.cell? ⟨g4,0,none⟩=some (.string ⟨#[108,105,115,116]⟩)
theorem DAt.keep {w w':World} {g g2 c2 g3 c3 g4 c4:Nat} (h:DAt w g g2 c2 g3 c3 g4 c4) (hf:Fr [] w w'):DAt w' g g2 c2 g3 c3 g4 c4:=by
 obtain⟨h1,h2,h3,h4,k1,k2,k3,k4,k5,k6,k7⟩:=h
 exact⟨Nat.lt_of_lt_of_le h1 hf.size,Nat.lt_of_lt_of_le h2 hf.size,Nat.lt_of_lt_of_le h3 hf.size,Nat.lt_of_lt_of_le h4 hf.size,(hf.cell h1 (by simp) _).trans k1,(hf.cell h1 (by simp) _).trans k2,(hf.cell h2 (by simp) _).trans k3,(hf.cell h3 (by simp) _).trans k4,(hf.cell h3 (by simp) _).trans k5,(hf.cell h3 (by simp) _).trans k6,(hf.cell h4 (by simp) _).trans k7⟩
theorem parse7 (w:World) (hL:Libs w):Calls Tryz.prog 5 #[.string pt7] w fun e w'=>∃ g c g2 c2 g3 c3 g4 c4,e=.returned (.tuple #[.agg #[.string ⟨#[109]⟩,.slice none 0 0,.slice (some ⟨g,0,none⟩) 1 c,.slice none 0 0,.slice none 0 0,.slice none 0 0],.int .i64 0,.int .i64 0])∧1≤c∧2≤c2∧2≤c3∧1≤c4∧DAt w' g g2 c2 g3 c3 g4 c4∧Fr [] w w':=by
 refine(parse_spec pt7 w (by decide) hL _ ptr7).mono ?_
 rintro e w' ⟨hf,cs,rfl,h⟩
 replace h:=rep_str.1 h
 obtain⟨cs,rfl,h⟩:=h
 replace h:=rep_sl.1 h
 obtain⟨v1,cs,rfl,h1,h⟩:=h
 replace h:=rep_sl.1 h
 obtain⟨v2,cs,rfl,h2,h⟩:=h
 replace h:=rep_sl.1 h
 obtain⟨v3,cs,rfl,h3,h⟩:=h
 replace h:=rep_sl.1 h
 obtain⟨v4,cs,rfl,h4,h⟩:=h
 replace h:=rep_sl.1 h
 obtain⟨v5,cs,rfl,h5,h⟩:=h
 replace h:=rep_nil.1 h
 obtain rfl:=h
 obtain rfl:=h1.none
 obtain rfl:=h3.none
 obtain rfl:=h4.none
 obtain rfl:=h5.none
 obtain⟨g,c,xs,rfl,_,hg,hc,_,hl,hx,h⟩:=h2.get (by decide)
 rw[rowsQ_one] at h
 replace h:=rep_str.1 h
 obtain⟨cs,rfl,h⟩:=h
 replace h:=rep_sl.1 h
 obtain⟨u1,cs,rfl,_,h⟩:=h
 replace h:=rep_sl.1 h
 obtain⟨u2,cs,rfl,h6,h⟩:=h
 replace h:=rep_int.1 h
 obtain⟨cs,rfl,h⟩:=h
 replace h:=rep_int.1 h
 obtain⟨cs,rfl,h⟩:=h
 replace h:=rep_nil.1 h
 obtain rfl:=h
 obtain⟨g2,c2,ys,rfl,_,hg2,hc2,_,hl2,hy,h⟩:=h6.get (by decide)
 replace h:=rep_str.1 h
 obtain⟨cs,rfl,h⟩:=h
 replace h:=rep_sl.1 h
 obtain⟨u3,cs,rfl,_,h⟩:=h
 replace h:=rep_int.1 h
 obtain⟨cs,rfl,h⟩:=h
 replace h:=rep_str.1 h
 obtain⟨cs,rfl,h⟩:=h
 replace h:=rep_sl.1 h
 obtain⟨u4,cs,rfl,h7,h⟩:=h
 replace h:=rep_int.1 h
 obtain⟨cs,rfl,h⟩:=h
 replace h:=rep_nil.1 h
 obtain rfl:=h
 obtain⟨g3,c3,zs,rfl,_,hg3,hc3,_,hl3,hz,h⟩:=h7.get (by decide)
 rw[rowsQ,rowsQ_one,typeQ_mk,typeQ_mk] at h
 replace h:=rep_str.1 h
 obtain⟨cs,rfl,h⟩:=h
 replace h:=rep_sl.1 h
 obtain⟨u5,cs,rfl,_,h⟩:=h
 replace h:=rep_int.1 h
 obtain⟨cs,rfl,h⟩:=h
 replace h:=rep_str.1 h
 obtain⟨cs,rfl,h⟩:=h
 replace h:=rep_sl.1 h
 obtain⟨u6,cs,rfl,h8,h⟩:=h
 replace h:=rep_int.1 h
 obtain⟨cs,rfl,h⟩:=h
 replace h:=rep_nil.1 h
 obtain rfl:=h
 obtain⟨g4,c4,ts,rfl,_,hg4,hc4,_,hl4,ht,h⟩:=h8.get (by decide)
 rw[rowsQ_one,typeQ_mk] at h
 replace h:=rep_str.1 h
 obtain⟨cs,rfl,h⟩:=h
 exact⟨g,c,g2,c2,g3,c3,g4,c4,rfl,hc,hc2,hc3,hc4,⟨hg,hg2,hg3,hg4,hx 2 (by decide),hx 3 (by decide),hy 4 (by decide),hz 3 (by decide),hz 4 (by decide),hz 5 (by decide),ht 0 (by decide)⟩,hf⟩
abbrev pt8:ByteArray:=⟨#[105,102]⟩
theorem ptr8:Lx.lexL pt8.data.toList=([⟨1,[105,102],0,0⟩],0,0):=by decide +kernel
theorem Libs.fr {w w':World} (h:Libs w) (hf:Fr [] w w'):Libs w':=h.below hf.toBelow (Nat.le_refl _)
set_option maxRecDepth 100000 in
set_option maxHeartbeats 3200000 in
theorem phead_any (w:World) (hL:Libs w):Calls Tryz.prog 4 #[] w fun e w'=>e=.returned (.bool true)∧Fr [] w w':=by
 have HL:=hid hL
 clear hL
 go_enter Tryz.func4,Tryz.ntmps4
 go_wp2_with fail
 refine(parse1 _ (HL.out.fr (Fr.refl [] w))).mono ?_
 rintro e w1 ⟨rfl,hf⟩
 have HF1:=hid (((Fr.refl [] w).trans hf).alloc (.cells #[.string ⟨#[109]⟩,.slice none 0 0,.slice none 0 0,.slice none 0 0,.slice none 0 0,.slice none 0 0] 29))
 have HB1:=hid (Blk.new w1 29 #[.string ⟨#[109]⟩,.slice none 0 0,.slice none 0 0,.slice none 0 0,.slice none 0 0,.slice none 0 0])
 clear hf
 go_wp2_with fail
 refine(parse2 _ (HL.out.fr HF1.out)).mono ?_
 rintro e w2 ⟨g,cg,g2,cg2,rfl,hcg,hcg2,hfa,hf⟩
 have HF2:=hid ((HF1.out.trans hf).alloc (.cells #[.string ⟨#[109]⟩,.slice none 0 0,.slice none 0 0,.slice none 0 0,.slice none 0 0,.slice (some ⟨g,0,none⟩) 1 cg] 29))
 have HB1_2:=hid ((HB1.out.keep hf (by simp)).alloc (.cells #[.string ⟨#[109]⟩,.slice none 0 0,.slice none 0 0,.slice none 0 0,.slice none 0 0,.slice (some ⟨g,0,none⟩) 1 cg] 29))
 have HB2:=hid (Blk.new w2 29 #[.string ⟨#[109]⟩,.slice none 0 0,.slice none 0 0,.slice none 0 0,.slice none 0 0,.slice (some ⟨g,0,none⟩) 1 cg])
 have HFA_2:=hid (hfa.keep ((Fr.refl _ _).alloc (.cells #[.string ⟨#[109]⟩,.slice none 0 0,.slice none 0 0,.slice none 0 0,.slice none 0 0,.slice (some ⟨g,0,none⟩) 1 cg] 29)))
 clear hfa
 clear hf
 go_wp2_with fail
 refine(parse3 _ (HL.out.fr HF2.out)).mono ?_
 rintro e w3 ⟨rfl,hf⟩
 have HF3:=hid ((HF2.out.trans hf).alloc (.cells #[.string ⟨#[]⟩,.slice none 0 0,.slice none 0 0,.slice none 0 0,.slice none 0 0,.slice none 0 0] 29))
 have HB1_3:=hid ((HB1_2.out.keep hf (by simp)).alloc (.cells #[.string ⟨#[]⟩,.slice none 0 0,.slice none 0 0,.slice none 0 0,.slice none 0 0,.slice none 0 0] 29))
 have HB2_3:=hid ((HB2.out.keep hf (by simp)).alloc (.cells #[.string ⟨#[]⟩,.slice none 0 0,.slice none 0 0,.slice none 0 0,.slice none 0 0,.slice none 0 0] 29))
 have HFA_3:=hid ((HFA_2.out.keep hf).keep ((Fr.refl _ _).alloc (.cells #[.string ⟨#[]⟩,.slice none 0 0,.slice none 0 0,.slice none 0 0,.slice none 0 0,.slice none 0 0] 29)))
 clear hf
 go_wp2_with fail
 refine(parse4 _ (HL.out.fr HF3.out)).mono ?_
 rintro e w4 ⟨rfl,hf⟩
 have HF4:=hid ((HF3.out.trans hf).alloc (.cells #[.string ⟨#[]⟩,.slice none 0 0,.slice none 0 0,.slice none 0 0,.slice none 0 0,.slice none 0 0] 29))
 have HB1_4:=hid ((HB1_3.out.keep hf (by simp)).alloc (.cells #[.string ⟨#[]⟩,.slice none 0 0,.slice none 0 0,.slice none 0 0,.slice none 0 0,.slice none 0 0] 29))
 have HB2_4:=hid ((HB2_3.out.keep hf (by simp)).alloc (.cells #[.string ⟨#[]⟩,.slice none 0 0,.slice none 0 0,.slice none 0 0,.slice none 0 0,.slice none 0 0] 29))
 have HFA_4:=hid ((HFA_3.out.keep hf).keep ((Fr.refl _ _).alloc (.cells #[.string ⟨#[]⟩,.slice none 0 0,.slice none 0 0,.slice none 0 0,.slice none 0 0,.slice none 0 0] 29)))
 clear hf
 go_wp2_with fail
 refine(parse5 _ (HL.out.fr HF4.out)).mono ?_
 rintro e w5 ⟨rfl,hf⟩
 have HF5:=hid ((HF4.out.trans hf).alloc (.cells #[.string ⟨#[]⟩,.slice none 0 0,.slice none 0 0,.slice none 0 0,.slice none 0 0,.slice none 0 0] 29))
 have HB1_5:=hid ((HB1_4.out.keep hf (by simp)).alloc (.cells #[.string ⟨#[]⟩,.slice none 0 0,.slice none 0 0,.slice none 0 0,.slice none 0 0,.slice none 0 0] 29))
 have HB2_5:=hid ((HB2_4.out.keep hf (by simp)).alloc (.cells #[.string ⟨#[]⟩,.slice none 0 0,.slice none 0 0,.slice none 0 0,.slice none 0 0,.slice none 0 0] 29))
 have HFA_5:=hid ((HFA_4.out.keep hf).keep ((Fr.refl _ _).alloc (.cells #[.string ⟨#[]⟩,.slice none 0 0,.slice none 0 0,.slice none 0 0,.slice none 0 0,.slice none 0 0] 29)))
 clear hf
 go_wp2_with fail
 refine(parse6 _ (HL.out.fr HF5.out)).mono ?_
 rintro e w6 ⟨rfl,hf⟩
 have HF6:=hid ((HF5.out.trans hf).alloc (.cells #[.string ⟨#[]⟩,.slice none 0 0,.slice none 0 0,.slice none 0 0,.slice none 0 0,.slice none 0 0] 29))
 have HB1_6:=hid ((HB1_5.out.keep hf (by simp)).alloc (.cells #[.string ⟨#[]⟩,.slice none 0 0,.slice none 0 0,.slice none 0 0,.slice none 0 0,.slice none 0 0] 29))
 have HB2_6:=hid ((HB2_5.out.keep hf (by simp)).alloc (.cells #[.string ⟨#[]⟩,.slice none 0 0,.slice none 0 0,.slice none 0 0,.slice none 0 0,.slice none 0 0] 29))
 have HFA_6:=hid ((HFA_5.out.keep hf).keep ((Fr.refl _ _).alloc (.cells #[.string ⟨#[]⟩,.slice none 0 0,.slice none 0 0,.slice none 0 0,.slice none 0 0,.slice none 0 0] 29)))
 clear hf
 go_wp2_with fail
 refine(parse7 _ (HL.out.fr HF6.out)).mono ?_
 rintro e w7 ⟨d,cd,d2,cd2,d3,cd3,d4,cd4,rfl,hcd,hcd2,hcd3,hcd4,hda,hf⟩
 have HF7:=hid ((HF6.out.trans hf).alloc (.cells #[.string ⟨#[109]⟩,.slice none 0 0,.slice (some ⟨d,0,none⟩) 1 cd,.slice none 0 0,.slice none 0 0,.slice none 0 0] 29))
 have HB1_7:=hid ((HB1_6.out.keep hf (by simp)).alloc (.cells #[.string ⟨#[109]⟩,.slice none 0 0,.slice (some ⟨d,0,none⟩) 1 cd,.slice none 0 0,.slice none 0 0,.slice none 0 0] 29))
 have HB2_7:=hid ((HB2_6.out.keep hf (by simp)).alloc (.cells #[.string ⟨#[109]⟩,.slice none 0 0,.slice (some ⟨d,0,none⟩) 1 cd,.slice none 0 0,.slice none 0 0,.slice none 0 0] 29))
 have HFA_7:=hid ((HFA_6.out.keep hf).keep ((Fr.refl _ _).alloc (.cells #[.string ⟨#[109]⟩,.slice none 0 0,.slice (some ⟨d,0,none⟩) 1 cd,.slice none 0 0,.slice none 0 0,.slice none 0 0] 29)))
 have HB7:=hid (Blk.new w7 29 #[.string ⟨#[109]⟩,.slice none 0 0,.slice (some ⟨d,0,none⟩) 1 cd,.slice none 0 0,.slice none 0 0,.slice none 0 0])
 have HDA_7:=hid (hda.keep ((Fr.refl _ _).alloc (.cells #[.string ⟨#[109]⟩,.slice none 0 0,.slice (some ⟨d,0,none⟩) 1 cd,.slice none 0 0,.slice none 0 0,.slice none 0 0] 29)))
 clear hda
 clear hf
 obtain⟨W7,hW7⟩:∃ W,W=w7.alloc (.cells #[.string ⟨#[109]⟩,.slice none 0 0,.slice (some ⟨d,0,none⟩) 1 cd,.slice none 0 0,.slice none 0 0,.slice none 0 0] 29):=⟨_,rfl⟩
 have hb1:Blk W7 w1.heap.size 29 #[.string ⟨#[109]⟩,.slice none 0 0,.slice none 0 0,.slice none 0 0,.slice none 0 0,.slice none 0 0]:=by rw[hW7];exact HB1_7.out
 have hb2:Blk W7 w2.heap.size 29 #[.string ⟨#[109]⟩,.slice none 0 0,.slice none 0 0,.slice none 0 0,.slice none 0 0,.slice (some ⟨g,0,none⟩) 1 cg]:=by rw[hW7];exact HB2_7.out
 have hb7:Blk W7 w7.heap.size 29 #[.string ⟨#[109]⟩,.slice none 0 0,.slice (some ⟨d,0,none⟩) 1 cd,.slice none 0 0,.slice none 0 0,.slice none 0 0]:=by rw[hW7];exact HB7.out
 have hfa:FAt W7 g g2 cg2:=by rw[hW7];exact HFA_7.out
 have hda:DAt W7 d d2 cd2 d3 cd3 d4 cd4:=by rw[hW7];exact HDA_7.out
 have HW7:Hid (Fr [] w W7):=hid (by rw[hW7];exact HF7.out)
 have HZ7:Hid (W7.heap.size=w7.heap.size+1):=hid (by rw[hW7];simp)
 have m0:W7.cell? ⟨w1.heap.size,0,none⟩=some (.string ⟨#[109]⟩):=hb1.cell 0
 have m2:W7.cell? ⟨w2.heap.size,5,none⟩=some (.slice (some ⟨g,0,none⟩) 1 cg):=hb2.cell 5
 have m7:W7.cell? ⟨w7.heap.size,2,none⟩=some (.slice (some ⟨d,0,none⟩) 1 cd):=hb7.cell 2
 obtain⟨l1,l2,f8,fx⟩:=hfa
 obtain⟨k1,k2,k3,k4,da,db,dc,dd,de,df,dg⟩:=hda
 have lb1:=hb1.lt
 have lb2:=hb2.lt
 have lb7:=hb7.lt
 have s0:W7.cell? ⟨g2,0,none⟩=some (.int .i64 1):=fx 0 (by decide)
 have s1:W7.cell? ⟨g2,1,none⟩=some (.string ⟨#[120]⟩):=fx 1 (by decide)
 have s2:W7.cell? ⟨g2,2,none⟩=some (.slice none 0 0):=fx 2 (by decide)
 have s3:W7.cell? ⟨g2,3,none⟩=some (.slice none 0 0):=fx 3 (by decide)
 have s4:W7.cell? ⟨g2,4,none⟩=some (.int .i64 1):=fx 4 (by decide)
 have s5:W7.cell? ⟨g2,5,none⟩=some (.string ⟨#[]⟩):=fx 5 (by decide)
 have s6:W7.cell? ⟨g2,6,none⟩=some (.string ⟨#[]⟩):=fx 6 (by decide)
 have s7:W7.cell? ⟨g2,7,none⟩=some (.string ⟨#[]⟩):=fx 7 (by decide)
 have s8:W7.cell? ⟨g2,8,none⟩=some (.slice none 0 0):=fx 8 (by decide)
 have s9:W7.cell? ⟨g2,9,none⟩=some (.int .i64 5):=fx 9 (by decide)
 have s10:W7.cell? ⟨g2,10,none⟩=some (.slice none 0 0):=fx 10 (by decide)
 have s11:W7.cell? ⟨g2,11,none⟩=some (.int .i64 34):=fx 11 (by decide)
 have s12:W7.cell? ⟨g2,12,none⟩=some (.slice none 0 0):=fx 12 (by decide)
 have s13:W7.cell? ⟨g2,13,none⟩=some (.slice none 0 0):=fx 13 (by decide)
 have s14:W7.cell? ⟨g2,14,none⟩=some (.slice none 0 0):=fx 14 (by decide)
 have s15:W7.cell? ⟨g2,15,none⟩=some (.slice none 0 0):=fx 15 (by decide)
 have s16:W7.cell? ⟨g2,16,none⟩=some (.int .i64 26):=fx 16 (by decide)
 go_upto_region 8 with fail
 rw[← hW7]
 clear hW7 fx hb1 hb2 hb7 HB1 HB1_2 HB1_3 HB1_4 HB1_5 HB1_6 HB1_7 HB2 HB2_3 HB2_4 HB2_5 HB2_6 HB2_7 HB7 HFA_2 HFA_3 HFA_4 HFA_5 HFA_6 HFA_7 HDA_7 HF1 HF2 HF3 HF4 HF5 HF6 HF7
 go_wp2_with fail
 refine(lex_spec pt8 _ (by decide) (HL.out.fr ((HW7.out.alloc _).alloc _)) _ _ _ ptr8).mono ?_
 rintro e w8 ⟨a8,c8,rfl,_,hb8⟩
 have hf8:=Inv_below_fr hb8
 have hfw:Fr [] W7 w8:=(((Fr.refl [] W7).alloc _).alloc _).trans hf8
 have hs8:Blk w8 W7.heap.size 52 #[.int .i64 1,.string ⟨#[120]⟩,.slice none 0 0,.slice none 0 0,.int .i64 1,.string ⟨#[]⟩,.string ⟨#[]⟩,.string ⟨#[]⟩,.slice none 0 0,.int .i64 5,.slice none 0 0,.int .i64 34,.slice none 0 0,.slice none 0 0,.slice none 0 0,.slice none 0 0,.int .i64 26]:=((Blk.new W7 _ _).alloc _).keep hf8 (by simp)
 have hx8:Blk w8 (W7.heap.size+1) 39 #[.string ⟨#[66,111,120]⟩,.slice (some ⟨d4,0,none⟩) 1 cd4,.int .i64 38]:=(Blk.new_at (by simp)).keep hf8 (by simp)
 have HF8:=hid (HW7.out.trans hfw)
 have n0:w8.cell? ⟨w1.heap.size,0,none⟩=some (.string ⟨#[109]⟩):=(hfw.cell lb1 (by simp) _).trans m0
 have n1:w8.cell? ⟨w7.heap.size,2,none⟩=some (.slice (some ⟨d,0,none⟩) 1 cd):=(hfw.cell lb7 (by simp) _).trans m7
 have n2:w8.cell? ⟨d,3,none⟩=some (.int .i64 3):=(hfw.cell k1 (by simp) _).trans db
 have n3:w8.cell? ⟨d4,0,none⟩=some (.string ⟨#[108,105,115,116]⟩):=(hfw.cell k4 (by simp) _).trans dg
 have p0:w8.cell? ⟨W7.heap.size,0,none⟩=some (.int .i64 1):=hs8.cell 0
 have p1:w8.cell? ⟨W7.heap.size,1,none⟩=some (.string ⟨#[120]⟩):=hs8.cell 1
 have p4:w8.cell? ⟨W7.heap.size,4,none⟩=some (.int .i64 1):=hs8.cell 4
 have p9:w8.cell? ⟨W7.heap.size,9,none⟩=some (.int .i64 5):=hs8.cell 9
 have p11:w8.cell? ⟨W7.heap.size,11,none⟩=some (.int .i64 34):=hs8.cell 11
 have p16:w8.cell? ⟨W7.heap.size,16,none⟩=some (.int .i64 26):=hs8.cell 16
 have q0:w8.cell? ⟨W7.heap.size+1,0,none⟩=some (.string ⟨#[66,111,120]⟩):=hx8.cell 0
 have q1:w8.cell? ⟨W7.heap.size+1,1,none⟩=some (.slice (some ⟨d4,0,none⟩) 1 cd4):=hx8.cell 1
 clear m0 m2 m7 l1 l2 f8 k1 k2 k3 k4 da db dc dd de df dg lb1 lb2 lb7 hf8 hfw hs8 hx8 hb8 s0 s1 s2 s3 s4 s5 s6 s7 s8 s9 s10 s11 s12 s13 s14 s15 s16
 go_wp2_with fail
 go_ret
 exact⟨rfl,HF8.out⟩
end Go.Proofs.YtghohohagbbajaaGreatDoor
