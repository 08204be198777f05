/-
 The walk of ParserItems, where the items are appended.
-/
import Derived.Test.YtpdhiminpdmpiaaGreatDoorZGA
import Derived.Deep.DeepCutAuto
set_option linter.unusedVariables false
set_option linter.unusedSimpArgs false
set_option linter.unusedSectionVars false
set_option linter.unusedVariables false
set_option linter.unusedSimpArgs false
set_option linter.unusedSectionVars false
namespace Go.Proofs.YtpdhiminpdmpiaaGreatDoor
open Go.RowKit Go.Lib
open Lx (Tk)
open Px (Txt TyE VarD DataD TraitD BoundD ImplD ArgD ExprD StmtD ArmD FuncD ModD)
theorem fl_ge {α : Type} (g : α → List Fact) (h : ∀ a, 1 ≤ (g a).length) : ∀ l : List α, l.length ≤ (l.flatMap g).length
 | [] => Nat.le_refl _
 | a :: l => by
  rw [List.flatMap_cons, List.length_append, List.length_cons]
  have := fl_ge g h l
  have := h a
  omega
theorem plus_few {M : ModD} {off : Bool} {N : Nat} (h : (factsM off M).length ≤ N) : M.datas.length ≤ N ∧ M.traits.length ≤ N ∧ M.impls.length ≤ N ∧ M.funcs.length ≤ N := by
 rw [factsM_fl, fnsF] at h
 simp only [List.length_append, nF_len] at h
 have h1 := fl_ge (gD off) (fun a => by simp [gD, tF, nF]) M.datas
 have h2 := fl_ge (gR off) (fun a => by simp [gR, tF, nF]) M.traits
 have h3 := fl_ge (gI off) (fun a => by simp [gI, tF, nF]) M.impls
 have h4 := fl_ge (fF off) (fun a => by cases a; simp [fF_mk, tF, nF]) M.funcs
 omega
/-- what a statement that appends twice leaves -/
def Left (v : World) (bw j : Nat) (cs : Array Value) (E s n : Nat) (q : Q) (wx : World) : Prop :=
 ∃ p c, Fr [bw] v wx ∧ Blk wx bw 29 (cs.setIfInBounds j (.slice p n c)) ∧ RowG wx (fun k => k ≠ bw) E s n q (.slice p n c)
theorem Left.of {v y : World} {bw j P E s n : Nat} {cs : Array Value} {q : Q} {p : Option Addr} {c : Nat} (hf : Fr [] v y) (hb : Blk v bw 29 cs) (hl : LisZ y P v.heap.size E s n q (.slice p n c)) (hP : P ≤ bw) : Left v bw j cs E s n q (y.setCell ⟨bw, j, none⟩ (.slice p n c)) := by
 have hbl := hb.lt
 refine ⟨p, c, (hf.more bw).setCell (.inl (by simp)) _, (hb.keep hf (by simp)).set j _, hl.row.mono (fun k hk hlt => ⟨by rcases hk with h | h <;> omega, ?_⟩)⟩
 exact ((Fr.refl [bw] y).setCell (p := ⟨bw, j, none⟩) (.inl (by simp)) _).block k hlt (by rcases hk with h | h <;> simp <;> omega)
set_option maxRecDepth 100000 in
set_option maxHeartbeats 6400000 in
/-- .. where the items are appended -/
theorem pitems_good (s t : ByteArray) (w : World) (hs : s.size ≤ 140737488355328) (ht : t.size ≤ 140737488355328) (hL : Libs w) (h0 : 0 < w.heap.size) (A B C : ModD) (t0 t1 t2 : Tk) (r3 : List Tk) (ts : List Tk) (hts : ts = t0 :: t1 :: t2 :: r3) (hr : Lx.lexL t.data.toList = (ts, 0, 0))
  (hs1 : s.size ≤ 1000) (HSZ : t.size ≤ 1000) (hp : Px.parseP s.data.toList = (some A, 0, 0)) (hq : Px.parseP t.data.toList = (some B, 0, 0)) (hu : B.uses = []) (hoff : t2.off + 1 ≤ t.size)
  (hc : Px.parseP (s.data.toList ++ 10 :: t.data.toList.drop (t2.off + 1)) = (some C, 0, 0)) (hfc : factsM false C = factsM false (plusM A B)) (hfl : (factsM false C).length ≤ 900000) :
  Calls Tryz.prog 5 #[.string s, .string t] w (PGood w) := by
 have HL := Lib.hid hL
 have HR := Lib.hid hr
 have HP := Lib.hid hp
 have HQ := Lib.hid hq
 have HFC := Lib.hid hfc
 have hd1 : decide ((1000 : Int) < (s.size : Int)) = false := by simp; omega
 have hfew := (lex_facts hr).2.2.1
 have hl3 : 3 ≤ ts.length := by rw [hts]; simp
 have hd3 : decide ((ts.length : Int) < 3) = false := by simp; omega
 have hd3' : decide (ts.length < 3) = false := by simp; omega
 have hT2 : Hid (ts[2]? = some t2) := Lib.hid (by rw [hts]; rfl)
 have hu0 : B.uses.length = 0 := by rw [hu]; rfl
 obtain ⟨x, hx⟩ : ∃ x : ByteArray, x = (s ++ (⟨#[10]⟩ : ByteArray)) ++ t.extract (t2.off + 1) t.size := ⟨_, rfl⟩
 have hxl : x.data.toList = s.data.toList ++ 10 :: t.data.toList.drop (t2.off + 1) := by
  rw [hx]
  simp [ByteArray.data_extract]
  exact List.take_of_length_le (by simp)
 have HC : Hid (Px.parseP x.data.toList = (some C, 0, 0)) := Lib.hid (by rw [hxl]; exact hc)
 have hxs : x.size ≤ 2001 := by
  rw [hx, ByteArray.size_append, ByteArray.size_append, ByteArray.size_extract]
  have : (⟨#[10]⟩ : ByteArray).size = 1 := rfl
  omega
 have HX := Lib.hid hx
 clear hL hr hp hq hc hfc hts hx hxl
 go_enter Tryz.func5, Tryz.ntmps5
 go_wp2_with fail
 refine (phead_any w HL.out).mono ?_
 rintro e w1 ⟨rfl, hf1⟩
 go_wp2_with fail
 refine (tokens_short t 1000 _ HSZ (by decide) (Nat.lt_of_lt_of_le h0 hf1.size)).mono ?_
 rintro e w2 ⟨a, cap, Tb, rfl, hT, hTb, hcap, hf2⟩
 rw [HR.out] at hT hcap
 rw [HR.out]
 have HT := Lib.hid hT
 have HF2 := Lib.hid (hf1.trans hf2)
 have hcap' : ts.length ≤ cap := hcap
 clear hT hf2 hf1 hcap
 go_wp2_with fail
 refine (parse_spec s _ hs (HL.out.fr HF2.out) _ HP.out).mono ?_
 rintro e w3 ⟨hf3, cs, rfl, hrep⟩
 have HA0 := Lib.hid (RIn.of hrep)
 obtain ⟨a1, ac1, a2, ac2, a3, ac3, a4, ac4, a5, ac5, rfl⟩ := HA0.out.six
 have HF3 := Lib.hid ((HF2.out.trans hf3).alloc (.cells #[.string ⟨A.name.toArray⟩, .slice a1 A.uses.length ac1, .slice a2 A.datas.length ac2, .slice a3 A.traits.length ac3, .slice a4 A.impls.length ac4, .slice a5 A.funcs.length ac5] 29))
 have HA := Lib.hid (HA0.out.keep ((Fr.refl _ _).alloc (.cells #[.string ⟨A.name.toArray⟩, .slice a1 A.uses.length ac1, .slice a2 A.datas.length ac2, .slice a3 A.traits.length ac3, .slice a4 A.impls.length ac4, .slice a5 A.funcs.length ac5] 29)))
 have HBA : Hid (Blk (w3.alloc (.cells #[.string ⟨A.name.toArray⟩, .slice a1 A.uses.length ac1, .slice a2 A.datas.length ac2, .slice a3 A.traits.length ac3, .slice a4 A.impls.length ac4, .slice a5 A.funcs.length ac5] 29)) w3.heap.size 29 #[.string ⟨A.name.toArray⟩, .slice a1 A.uses.length ac1, .slice a2 A.datas.length ac2, .slice a3 A.traits.length ac3, .slice a4 A.impls.length ac4, .slice a5 A.funcs.length ac5]) := Lib.hid (Blk.new _ _ _)
 have HT3 := Lib.hid (HT.out.same ((hf3.alloc (.cells #[.string ⟨A.name.toArray⟩, .slice a1 A.uses.length ac1, .slice a2 A.datas.length ac2, .slice a3 A.traits.length ac3, .slice a4 A.impls.length ac4, .slice a5 A.funcs.length ac5] 29)).block Tb hTb (by simp)))
 have hTb3 := fr_lt (hf3.alloc (.cells #[.string ⟨A.name.toArray⟩, .slice a1 A.uses.length ac1, .slice a2 A.datas.length ac2, .slice a3 A.traits.length ac3, .slice a4 A.impls.length ac4, .slice a5 A.funcs.length ac5] 29)) hTb
 clear hf3 hrep HA0 HT hTb
 go_wp2_with fail
 refine (parse_spec t _ ht (HL.out.fr HF3.out) _ HQ.out).mono ?_
 rintro e w4 ⟨hf4, cs, rfl, hrep⟩
 have HB0 := Lib.hid (RIn.of hrep)
 obtain ⟨b1, bc1, b2, bc2, b3, bc3, b4, bc4, b5, bc5, rfl⟩ := HB0.out.six
 have hff : Fr [] (w3.alloc (.cells #[.string ⟨A.name.toArray⟩, .slice a1 A.uses.length ac1, .slice a2 A.datas.length ac2, .slice a3 A.traits.length ac3, .slice a4 A.impls.length ac4, .slice a5 A.funcs.length ac5] 29)) (w4.alloc (.cells #[.string ⟨B.name.toArray⟩, .slice b1 B.uses.length bc1, .slice b2 B.datas.length bc2, .slice b3 B.traits.length bc3, .slice b4 B.impls.length bc4, .slice b5 B.funcs.length bc5] 29)) := hf4.alloc _
 have HF4 := Lib.hid (HF3.out.trans hff)
 have HA4 := Lib.hid (HA.out.keep hff)
 have HB := Lib.hid (HB0.out.keep ((Fr.refl _ _).alloc (.cells #[.string ⟨B.name.toArray⟩, .slice b1 B.uses.length bc1, .slice b2 B.datas.length bc2, .slice b3 B.traits.length bc3, .slice b4 B.impls.length bc4, .slice b5 B.funcs.length bc5] 29)))
 have HBA4 := Lib.hid (HBA.out.keep hff (by simp))
 have HBB : Hid (Blk (w4.alloc (.cells #[.string ⟨B.name.toArray⟩, .slice b1 B.uses.length bc1, .slice b2 B.datas.length bc2, .slice b3 B.traits.length bc3, .slice b4 B.impls.length bc4, .slice b5 B.funcs.length bc5] 29)) w4.heap.size 29 #[.string ⟨B.name.toArray⟩, .slice b1 B.uses.length bc1, .slice b2 B.datas.length bc2, .slice b3 B.traits.length bc3, .slice b4 B.impls.length bc4, .slice b5 B.funcs.length bc5]) := Lib.hid (Blk.new _ _ _)
 have HT4 := Lib.hid (HT3.out.same (hf4.block Tb hTb3 (by simp)))
 have hTb4 := fr_lt hf4 hTb3
 clear hff hf4 hrep HB0 HT3 hTb3 HA HBA
 obtain ⟨oo, rfl, _, _, _, _, hc3⟩ := HT4.out.at hT2.out
 have hc3' : w4.cell? ⟨Tb, oo + 8 + 3, none⟩ = some (.int .i64 t2.off) := hc3
 have hl3I : (2 : Int) < (ts.length : Int) := by omega
 simp only [hu0]
 simp only [hu0] at HF4 HB HBB
 try simp only [hu0] at HA4
 try simp only [hu0] at HBA4
 go_wp2_with fail
 rw [← HX.out]
 refine (parse_spec x _ (by omega) (HL.out.fr HF4.out) _ HC.out).mono ?_
 rintro e w5 ⟨hf5, cs, rfl, hrep⟩
 have HC0 := Lib.hid (ModIn.of (ModG.of hrep))
 obtain ⟨c1, cc1, c2, cc2, c3, cc3, c4, cc4, c5, cc5, rfl⟩ := HC0.out.six
 have HBA5 := Lib.hid (HBA4.out.keep hf5 (by simp))
 have HBB5 := Lib.hid (HBB.out.keep hf5 (by simp))
 have HA5 := Lib.hid (HA4.out.keep hf5)
 have HB5 := Lib.hid (HB.out.keep hf5)
 have HF5 := Lib.hid (HF4.out.trans hf5)
 have hA5 := HBA5.out.lt
 have hB5 := HBB5.out.lt
 have m0 := (HBA5.out.cell 0 : w5.cell? ⟨w3.heap.size, 0, none⟩ = some (.string ⟨A.name.toArray⟩))
 have m1 := (HBA5.out.cell 1 : w5.cell? ⟨w3.heap.size, 1, none⟩ = some (.slice a1 A.uses.length ac1))
 have m2 := (HBA5.out.cell 2 : w5.cell? ⟨w3.heap.size, 2, none⟩ = some (.slice a2 A.datas.length ac2))
 have m3 := (HBA5.out.cell 3 : w5.cell? ⟨w3.heap.size, 3, none⟩ = some (.slice a3 A.traits.length ac3))
 have m4 := (HBA5.out.cell 4 : w5.cell? ⟨w3.heap.size, 4, none⟩ = some (.slice a4 A.impls.length ac4))
 have m5 := (HBA5.out.cell 5 : w5.cell? ⟨w3.heap.size, 5, none⟩ = some (.slice a5 A.funcs.length ac5))
 clear hf5 hrep hc3 hc3' hTb4 HT4 hl3I HBA4 HBB HA4 HB
 go_wp2_with fail
 have G6 : Hid (Fr [] w5 ((w5.alloc (.cells #[.string ⟨C.name.toArray⟩, .slice c1 C.uses.length cc1, .slice c2 C.datas.length cc2, .slice c3 C.traits.length cc3, .slice c4 C.impls.length cc4, .slice c5 C.funcs.length cc5] 29)).alloc (.cells #[.string ⟨A.name.toArray⟩, .slice a1 A.uses.length ac1, .slice a2 A.datas.length ac2, .slice a3 A.traits.length ac3, .slice a4 A.impls.length ac4, .slice a5 A.funcs.length ac5] 29))) := Lib.hid (((Fr.refl [] w5).alloc _).alloc _)
 have HBW6 : Hid (Blk ((w5.alloc (.cells #[.string ⟨C.name.toArray⟩, .slice c1 C.uses.length cc1, .slice c2 C.datas.length cc2, .slice c3 C.traits.length cc3, .slice c4 C.impls.length cc4, .slice c5 C.funcs.length cc5] 29)).alloc (.cells #[.string ⟨A.name.toArray⟩, .slice a1 A.uses.length ac1, .slice a2 A.datas.length ac2, .slice a3 A.traits.length ac3, .slice a4 A.impls.length ac4, .slice a5 A.funcs.length ac5] 29)) (w5.heap.size + 1) 29 #[.string ⟨A.name.toArray⟩, .slice a1 A.uses.length ac1, .slice a2 A.datas.length ac2, .slice a3 A.traits.length ac3, .slice a4 A.impls.length ac4, .slice a5 A.funcs.length ac5]) := Lib.hid (by have := Blk.new (w5.alloc (.cells #[.string ⟨C.name.toArray⟩, .slice c1 C.uses.length cc1, .slice c2 C.datas.length cc2, .slice c3 C.traits.length cc3, .slice c4 C.impls.length cc4, .slice c5 C.funcs.length cc5] 29)) 29 #[.string ⟨A.name.toArray⟩, .slice a1 A.uses.length ac1, .slice a2 A.datas.length ac2, .slice a3 A.traits.length ac3, .slice a4 A.impls.length ac4, .slice a5 A.funcs.length ac5]; simpa using this)
 have HBC6 : Hid (Blk ((w5.alloc (.cells #[.string ⟨C.name.toArray⟩, .slice c1 C.uses.length cc1, .slice c2 C.datas.length cc2, .slice c3 C.traits.length cc3, .slice c4 C.impls.length cc4, .slice c5 C.funcs.length cc5] 29)).alloc (.cells #[.string ⟨A.name.toArray⟩, .slice a1 A.uses.length ac1, .slice a2 A.datas.length ac2, .slice a3 A.traits.length ac3, .slice a4 A.impls.length ac4, .slice a5 A.funcs.length ac5] 29)) w5.heap.size 29 #[.string ⟨C.name.toArray⟩, .slice c1 C.uses.length cc1, .slice c2 C.datas.length cc2, .slice c3 C.traits.length cc3, .slice c4 C.impls.length cc4, .slice c5 C.funcs.length cc5]) := Lib.hid ((Blk.new _ _ _).alloc _)
 have hz6 : ((w5.alloc (.cells #[.string ⟨C.name.toArray⟩, .slice c1 C.uses.length cc1, .slice c2 C.datas.length cc2, .slice c3 C.traits.length cc3, .slice c4 C.impls.length cc4, .slice c5 C.funcs.length cc5] 29)).alloc (.cells #[.string ⟨A.name.toArray⟩, .slice a1 A.uses.length ac1, .slice a2 A.datas.length ac2, .slice a3 A.traits.length ac3, .slice a4 A.impls.length ac4, .slice a5 A.funcs.length ac5] 29)).heap.size = w5.heap.size + 2 := by simp
 obtain ⟨v6, h6⟩ : ∃ v, v = ((w5.alloc (.cells #[.string ⟨C.name.toArray⟩, .slice c1 C.uses.length cc1, .slice c2 C.datas.length cc2, .slice c3 C.traits.length cc3, .slice c4 C.impls.length cc4, .slice c5 C.funcs.length cc5] 29)).alloc (.cells #[.string ⟨A.name.toArray⟩, .slice a1 A.uses.length ac1, .slice a2 A.datas.length ac2, .slice a3 A.traits.length ac3, .slice a4 A.impls.length ac4, .slice a5 A.funcs.length ac5] 29)) := ⟨_, rfl⟩
 rw [← h6] at G6 HBW6 HBC6 hz6 ⊢
 clear h6
 have HF6 := Lib.hid (HF5.out.trans G6.out)
 have HW5 : Hid (w.heap.size ≤ w5.heap.size) := Lib.hid HF5.out.size
 have HBA6 := Lib.hid (HBA5.out.keep G6.out (by simp))
 have HBB6 := Lib.hid (HBB5.out.keep G6.out (by simp))
 have low : ∀ {E s n : Nat} {q : Q} {u : Value}, RowV w5 (fun k => k < w5.heap.size) E s n q u → RowV v6 (fun k => k < w5.heap.size) E s n q u := fun h => h.mono (fun k hk hl => ⟨hk, G6.out.block k hl (by simp)⟩)
 obtain ⟨ra2, ra3, ra4, ra5⟩ := HA5.out.rows
 obtain ⟨rb2, rb3, rb4, rb5⟩ := HB5.out.rows
 have A62 := Lib.hid (low ra2)
 have A63 := Lib.hid (low ra3)
 have A64 := Lib.hid (low ra4)
 have A65 := Lib.hid (low ra5)
 have B62 := Lib.hid (low rb2)
 have B63 := Lib.hid (low rb3)
 have B64 := Lib.hid (low rb4)
 have B65 := Lib.hid (low rb5)
 have U6 := Lib.hid (HA5.out.uses.mono (N' := fun k => k < w5.heap.size) (w' := v6) (fun k hk hl => ⟨hk, G6.out.block k hl (by simp)⟩))
 have C6 := Lib.hid (ModG.mono HC0.out (N' := fun k => k < w5.heap.size) (w' := v6) (fun k hk hl => ⟨hk, G6.out.block k hl (by simp)⟩))
 have K6 : Hid (Fr [(w5.heap.size + 1)] v6 v6) := Lib.hid (Fr.refl _ _)
 have HZ6 := Lib.hid hz6
 clear hz6
 clear ra2 ra3 ra4 ra5 rb2 rb3 rb4 rb5 low m0 m1 m2 m3 m4 m5 G6 HC0 HA5 HB5 HBA5 HBB5 HF5 HF4 HF3
 have hnA : (factsM false A).length ≤ 0 ∨ True := .inr trivial
 obtain ⟨hnd2, hnd3, hnd4, hnd5⟩ := plus_few (M := plusM A B) (off := false) (N := 900000) (by rw [← HFC.out]; exact hfl)
 simp only [plusM, List.length_append] at hnd2 hnd3 hnd4 hnd5
 have hZ : v6.heap.size ≤ v6.heap.size := K6.out.size
 have hz6 := HZ6.out
 have xa := ((HBA6.out.keep K6.out (by simp; omega)).cell 2 : v6.cell? ⟨w3.heap.size, 2, none⟩ = some (.slice a2 A.datas.length ac2))
 have xb := ((HBB6.out.keep K6.out (by simp; omega)).cell 2 : v6.cell? ⟨w4.heap.size, 2, none⟩ = some (.slice b2 B.datas.length bc2))
 have xw := (HBW6.out.cell 2 : v6.cell? ⟨w5.heap.size + 1, 2, none⟩ = some (.slice a2 A.datas.length ac2))
 have xf := (HBW6.out.frozen 2 : v6.frozen? ⟨w5.heap.size + 1, 2, none⟩ = false)
 have lA : w3.heap.size < v6.heap.size := by omega
 have lB : w4.heap.size < v6.heap.size := by omega
 have lW : w5.heap.size + 1 < v6.heap.size := by omega
 have RA := Lib.hid (A62.out.mono (N' := fun k => k < w5.heap.size) (w' := v6) (fun k hk hl => ⟨hk, K6.out.block k hl (by simp; omega)⟩))
 have RB := Lib.hid (B62.out.mono (N' := fun k => k < w5.heap.size) (w' := v6) (fun k hk hl => ⟨hk, K6.out.block k hl (by simp; omega)⟩))
 obtain ⟨i0, hinf, iz0, iz1, iz2⟩ := info_parts info_data
 have HINF := Lib.hid hinf
 clear hinf
 have Y0 : Hid (Fr [] v6 (v6.alloc (.cells #[] 65)).drew) := Lib.hid ((Fr.refl [] v6).alloc _).drew
 have xa0 : (v6.alloc (.cells #[] 65)).drew.cell? ⟨w3.heap.size, 2, none⟩ = some (.slice a2 A.datas.length ac2) := (Y0.out.cell lA (by simp) 2).trans xa
 have xb0 : (v6.alloc (.cells #[] 65)).drew.cell? ⟨w4.heap.size, 2, none⟩ = some (.slice b2 B.datas.length bc2) := (Y0.out.cell lB (by simp) 2).trans xb
 have Z0 : Hid (LisZ (v6.alloc (.cells #[] 65)).drew w5.heap.size v6.heap.size 65 5 0 .nil (.slice (some ⟨v6.heap.size, 0, none⟩) 0 0)) := Lib.hid (LisZ.new (P := w5.heap.size) (w := v6) rfl : LisZ (v6.alloc (.cells #[] 65)) w5.heap.size v6.heap.size 65 5 0 .nil (.slice (some ⟨v6.heap.size, 0, none⟩) 0 0))
 have RA0 := Lib.hid (RA.out.mono (N' := fun k => k < w5.heap.size) (fun k hk hl => ⟨hk, Y0.out.block k hl (by simp)⟩))
 clear hZ hz6
 go_cut [4] (fun s4 wx => s4 = .bool false ∧ Left v6 (w5.heap.size + 1) 2 #[.string ⟨A.name.toArray⟩, .slice a1 A.uses.length ac1, .slice a2 A.datas.length ac2, .slice a3 A.traits.length ac3, .slice a4 A.impls.length ac4, .slice a5 A.funcs.length ac5] 65 5 (A.datas.length + B.datas.length) ((rowsQ dataQ A.datas).app (rowsQ dataQ B.datas)) wx)
 case first =>
  go_region_law (first | (refine step_append_first _ (by rfl) _ _ 24 (by rfl) w5.heap.size v6.heap.size 65 i0 _ 5 80 Tryz.underlying24 HINF.out iz0 iz1 iz2 rfl (by decide) (.slice (some ⟨v6.heap.size, 0, none⟩) 0 0) (.slice a2 A.datas.length ac2) A.datas.length (rowsQ dataQ A.datas) (by rfl) (by rfl) (by omega) Z0.out RA0.out (by omega) (by decide) ?_; intro p1 k1 y1 hL1 hg1; have Y1 := Lib.hid (Y0.out.grown hg1 (fun k hk => by simp [Value.ownBlock] at hk; omega)); have xb1 := (Y1.out.cell lB (by simp) 2).trans xb; have xw1 := (Y1.out.cell lW (by simp) 2).trans xw; have xf1 := (Y1.out.frozen lW (by simp) 2).trans xf; have lB1 := fr_lt Y1.out lB; have lW1 := fr_lt Y1.out lW; have L1 := Lib.hid hL1; have RB1 := Lib.hid (RB.out.mono (N' := fun k => k < w5.heap.size) (fun k hk hl => ⟨hk, Y1.out.block k hl (by simp)⟩)); clear hL1 hg1) | (refine step_append_z _ (by rfl) _ _ 24 (by rfl) w5.heap.size v6.heap.size 65 i0 _ 5 80 Tryz.underlying24 HINF.out iz0 iz1 iz2 rfl (by decide) (.slice p1 A.datas.length k1) (.slice b2 B.datas.length bc2) A.datas.length B.datas.length (rowsQ dataQ A.datas) (rowsQ dataQ B.datas) (by rfl) (by rfl) (by omega) L1.out RB1.out (by omega) (by decide) ?_; intro p2 k2 y2 hL2 hg2; have Y2 := Lib.hid (Y1.out.grown hg2 (L1.out.own)); have xw2 := (Y2.out.cell lW (by simp) 2).trans xw; have xf2 := (Y2.out.frozen lW (by simp) 2).trans xf; have lW2 := fr_lt Y2.out lW; have L2 := Lib.hid hL2; clear hL2 hg2))
  all_goals (try go_wp2_with fail)
  all_goals (go_meet; exact ⟨rfl, Left.of Y2.out HBW6.out L2.out (by omega)⟩)
 case rest =>
  obtain ⟨rfl, pz2, kz2, hK, hB, hR⟩ := hcut
  obtain ⟨v7, hv⟩ : ∃ v : World, v = wc := ⟨_, rfl⟩
  subst hv
  have HBW7 : Hid (Blk v7 (w5.heap.size + 1) 29 #[.string ⟨A.name.toArray⟩, .slice a1 A.uses.length ac1, .slice pz2 (A.datas.length + B.datas.length) kz2, .slice a3 A.traits.length ac3, .slice a4 A.impls.length ac4, .slice a5 A.funcs.length ac5]) := Lib.hid (by simpa using hB)
  have K7 := Lib.hid (K6.out.trans hK)
  have S2_7 := Lib.hid hR
  clear hK hB hR xa xb xw xf lA lB lW xa0 xb0 Y0 Z0 RA RA0 RB HINF iz0 iz1 iz2 i0
  go_wp2_with fail
  have hZ : v6.heap.size ≤ v7.heap.size := K7.out.size
  have hz6 := HZ6.out
  have xa := ((HBA6.out.keep K7.out (by simp; omega)).cell 3 : v7.cell? ⟨w3.heap.size, 3, none⟩ = some (.slice a3 A.traits.length ac3))
  have xb := ((HBB6.out.keep K7.out (by simp; omega)).cell 3 : v7.cell? ⟨w4.heap.size, 3, none⟩ = some (.slice b3 B.traits.length bc3))
  have xw := (HBW7.out.cell 3 : v7.cell? ⟨w5.heap.size + 1, 3, none⟩ = some (.slice a3 A.traits.length ac3))
  have xf := (HBW7.out.frozen 3 : v7.frozen? ⟨w5.heap.size + 1, 3, none⟩ = false)
  have lA : w3.heap.size < v7.heap.size := by omega
  have lB : w4.heap.size < v7.heap.size := by omega
  have lW : w5.heap.size + 1 < v7.heap.size := by omega
  have RA := Lib.hid (A63.out.mono (N' := fun k => k < w5.heap.size) (w' := v7) (fun k hk hl => ⟨hk, K7.out.block k hl (by simp; omega)⟩))
  have RB := Lib.hid (B63.out.mono (N' := fun k => k < w5.heap.size) (w' := v7) (fun k hk hl => ⟨hk, K7.out.block k hl (by simp; omega)⟩))
  obtain ⟨i0, hinf, iz0, iz1, iz2⟩ := info_parts info_trait
  have HINF := Lib.hid hinf
  clear hinf
  have Y0 : Hid (Fr [] v7 (v7.alloc (.cells #[] 61)).drew) := Lib.hid ((Fr.refl [] v7).alloc _).drew
  have xa0 : (v7.alloc (.cells #[] 61)).drew.cell? ⟨w3.heap.size, 3, none⟩ = some (.slice a3 A.traits.length ac3) := (Y0.out.cell lA (by simp) 3).trans xa
  have xb0 : (v7.alloc (.cells #[] 61)).drew.cell? ⟨w4.heap.size, 3, none⟩ = some (.slice b3 B.traits.length bc3) := (Y0.out.cell lB (by simp) 3).trans xb
  have Z0 : Hid (LisZ (v7.alloc (.cells #[] 61)).drew w5.heap.size v7.heap.size 61 2 0 .nil (.slice (some ⟨v7.heap.size, 0, none⟩) 0 0)) := Lib.hid (LisZ.new (P := w5.heap.size) (w := v7) rfl : LisZ (v7.alloc (.cells #[] 61)) w5.heap.size v7.heap.size 61 2 0 .nil (.slice (some ⟨v7.heap.size, 0, none⟩) 0 0))
  have RA0 := Lib.hid (RA.out.mono (N' := fun k => k < w5.heap.size) (fun k hk hl => ⟨hk, Y0.out.block k hl (by simp)⟩))
  clear hZ hz6
  go_cut [4] (fun s4 wx => s4 = .bool false ∧ Left v7 (w5.heap.size + 1) 3 #[.string ⟨A.name.toArray⟩, .slice a1 A.uses.length ac1, .slice pz2 (A.datas.length + B.datas.length) kz2, .slice a3 A.traits.length ac3, .slice a4 A.impls.length ac4, .slice a5 A.funcs.length ac5] 61 2 (A.traits.length + B.traits.length) ((rowsQ traitQ A.traits).app (rowsQ traitQ B.traits)) wx)
  case first =>
   go_region_law (first | (refine step_append_first _ (by rfl) _ _ 25 (by rfl) w5.heap.size v7.heap.size 61 i0 _ 2 24 Tryz.underlying25 HINF.out iz0 iz1 iz2 rfl (by decide) (.slice (some ⟨v7.heap.size, 0, none⟩) 0 0) (.slice a3 A.traits.length ac3) A.traits.length (rowsQ traitQ A.traits) (by rfl) (by rfl) (by omega) Z0.out RA0.out (by omega) (by decide) ?_; intro p1 k1 y1 hL1 hg1; have Y1 := Lib.hid (Y0.out.grown hg1 (fun k hk => by simp [Value.ownBlock] at hk; omega)); have xb1 := (Y1.out.cell lB (by simp) 3).trans xb; have xw1 := (Y1.out.cell lW (by simp) 3).trans xw; have xf1 := (Y1.out.frozen lW (by simp) 3).trans xf; have lB1 := fr_lt Y1.out lB; have lW1 := fr_lt Y1.out lW; have L1 := Lib.hid hL1; have RB1 := Lib.hid (RB.out.mono (N' := fun k => k < w5.heap.size) (fun k hk hl => ⟨hk, Y1.out.block k hl (by simp)⟩)); clear hL1 hg1) | (refine step_append_z _ (by rfl) _ _ 25 (by rfl) w5.heap.size v7.heap.size 61 i0 _ 2 24 Tryz.underlying25 HINF.out iz0 iz1 iz2 rfl (by decide) (.slice p1 A.traits.length k1) (.slice b3 B.traits.length bc3) A.traits.length B.traits.length (rowsQ traitQ A.traits) (rowsQ traitQ B.traits) (by rfl) (by rfl) (by omega) L1.out RB1.out (by omega) (by decide) ?_; intro p2 k2 y2 hL2 hg2; have Y2 := Lib.hid (Y1.out.grown hg2 (L1.out.own)); have xw2 := (Y2.out.cell lW (by simp) 3).trans xw; have xf2 := (Y2.out.frozen lW (by simp) 3).trans xf; have lW2 := fr_lt Y2.out lW; have L2 := Lib.hid hL2; clear hL2 hg2))
   all_goals (try go_wp2_with fail)
   all_goals (go_meet; exact ⟨rfl, Left.of Y2.out HBW7.out L2.out (by omega)⟩)
  case rest =>
   obtain ⟨rfl, pz3, kz3, hK, hB, hR⟩ := hcut
   obtain ⟨v8, hv⟩ : ∃ v : World, v = wc := ⟨_, rfl⟩
   subst hv
   have HBW8 : Hid (Blk v8 (w5.heap.size + 1) 29 #[.string ⟨A.name.toArray⟩, .slice a1 A.uses.length ac1, .slice pz2 (A.datas.length + B.datas.length) kz2, .slice pz3 (A.traits.length + B.traits.length) kz3, .slice a4 A.impls.length ac4, .slice a5 A.funcs.length ac5]) := Lib.hid (by simpa using hB)
   have K8 := Lib.hid (K7.out.trans hK)
   have S2_8 := Lib.hid (S2_7.out.mono (N' := fun k => k ≠ w5.heap.size + 1) (w' := v8) (fun k hk hl => ⟨hk, hK.block k hl (by simpa using hk)⟩))
   have S3_8 := Lib.hid hR
   clear hK hB hR xa xb xw xf lA lB lW xa0 xb0 Y0 Z0 RA RA0 RB HINF iz0 iz1 iz2 i0
   go_wp2_with fail
   have hZ : v6.heap.size ≤ v8.heap.size := K8.out.size
   have hz6 := HZ6.out
   have xa := ((HBA6.out.keep K8.out (by simp; omega)).cell 4 : v8.cell? ⟨w3.heap.size, 4, none⟩ = some (.slice a4 A.impls.length ac4))
   have xb := ((HBB6.out.keep K8.out (by simp; omega)).cell 4 : v8.cell? ⟨w4.heap.size, 4, none⟩ = some (.slice b4 B.impls.length bc4))
   have xw := (HBW8.out.cell 4 : v8.cell? ⟨w5.heap.size + 1, 4, none⟩ = some (.slice a4 A.impls.length ac4))
   have xf := (HBW8.out.frozen 4 : v8.frozen? ⟨w5.heap.size + 1, 4, none⟩ = false)
   have lA : w3.heap.size < v8.heap.size := by omega
   have lB : w4.heap.size < v8.heap.size := by omega
   have lW : w5.heap.size + 1 < v8.heap.size := by omega
   have RA := Lib.hid (A64.out.mono (N' := fun k => k < w5.heap.size) (w' := v8) (fun k hk hl => ⟨hk, K8.out.block k hl (by simp; omega)⟩))
   have RB := Lib.hid (B64.out.mono (N' := fun k => k < w5.heap.size) (w' := v8) (fun k hk hl => ⟨hk, K8.out.block k hl (by simp; omega)⟩))
   obtain ⟨i0, hinf, iz0, iz1, iz2⟩ := info_parts info_impl
   have HINF := Lib.hid hinf
   clear hinf
   have Y0 : Hid (Fr [] v8 (v8.alloc (.cells #[] 89)).drew) := Lib.hid ((Fr.refl [] v8).alloc _).drew
   have xa0 : (v8.alloc (.cells #[] 89)).drew.cell? ⟨w3.heap.size, 4, none⟩ = some (.slice a4 A.impls.length ac4) := (Y0.out.cell lA (by simp) 4).trans xa
   have xb0 : (v8.alloc (.cells #[] 89)).drew.cell? ⟨w4.heap.size, 4, none⟩ = some (.slice b4 B.impls.length bc4) := (Y0.out.cell lB (by simp) 4).trans xb
   have Z0 : Hid (LisZ (v8.alloc (.cells #[] 89)).drew w5.heap.size v8.heap.size 89 8 0 .nil (.slice (some ⟨v8.heap.size, 0, none⟩) 0 0)) := Lib.hid (LisZ.new (P := w5.heap.size) (w := v8) rfl : LisZ (v8.alloc (.cells #[] 89)) w5.heap.size v8.heap.size 89 8 0 .nil (.slice (some ⟨v8.heap.size, 0, none⟩) 0 0))
   have RA0 := Lib.hid (RA.out.mono (N' := fun k => k < w5.heap.size) (fun k hk hl => ⟨hk, Y0.out.block k hl (by simp)⟩))
   clear hZ hz6
   go_cut [4] (fun s4 wx => s4 = .bool false ∧ Left v8 (w5.heap.size + 1) 4 #[.string ⟨A.name.toArray⟩, .slice a1 A.uses.length ac1, .slice pz2 (A.datas.length + B.datas.length) kz2, .slice pz3 (A.traits.length + B.traits.length) kz3, .slice a4 A.impls.length ac4, .slice a5 A.funcs.length ac5] 89 8 (A.impls.length + B.impls.length) ((rowsQ implQ A.impls).app (rowsQ implQ B.impls)) wx)
   case first =>
    go_region_law (first | (refine step_append_first _ (by rfl) _ _ 26 (by rfl) w5.heap.size v8.heap.size 89 i0 _ 8 136 Tryz.underlying26 HINF.out iz0 iz1 iz2 rfl (by decide) (.slice (some ⟨v8.heap.size, 0, none⟩) 0 0) (.slice a4 A.impls.length ac4) A.impls.length (rowsQ implQ A.impls) (by rfl) (by rfl) (by omega) Z0.out RA0.out (by omega) (by decide) ?_; intro p1 k1 y1 hL1 hg1; have Y1 := Lib.hid (Y0.out.grown hg1 (fun k hk => by simp [Value.ownBlock] at hk; omega)); have xb1 := (Y1.out.cell lB (by simp) 4).trans xb; have xw1 := (Y1.out.cell lW (by simp) 4).trans xw; have xf1 := (Y1.out.frozen lW (by simp) 4).trans xf; have lB1 := fr_lt Y1.out lB; have lW1 := fr_lt Y1.out lW; have L1 := Lib.hid hL1; have RB1 := Lib.hid (RB.out.mono (N' := fun k => k < w5.heap.size) (fun k hk hl => ⟨hk, Y1.out.block k hl (by simp)⟩)); clear hL1 hg1) | (refine step_append_z _ (by rfl) _ _ 26 (by rfl) w5.heap.size v8.heap.size 89 i0 _ 8 136 Tryz.underlying26 HINF.out iz0 iz1 iz2 rfl (by decide) (.slice p1 A.impls.length k1) (.slice b4 B.impls.length bc4) A.impls.length B.impls.length (rowsQ implQ A.impls) (rowsQ implQ B.impls) (by rfl) (by rfl) (by omega) L1.out RB1.out (by omega) (by decide) ?_; intro p2 k2 y2 hL2 hg2; have Y2 := Lib.hid (Y1.out.grown hg2 (L1.out.own)); have xw2 := (Y2.out.cell lW (by simp) 4).trans xw; have xf2 := (Y2.out.frozen lW (by simp) 4).trans xf; have lW2 := fr_lt Y2.out lW; have L2 := Lib.hid hL2; clear hL2 hg2))
    all_goals (try go_wp2_with fail)
    all_goals (go_meet; exact ⟨rfl, Left.of Y2.out HBW8.out L2.out (by omega)⟩)
   case rest =>
    obtain ⟨rfl, pz4, kz4, hK, hB, hR⟩ := hcut
    obtain ⟨v9, hv⟩ : ∃ v : World, v = wc := ⟨_, rfl⟩
    subst hv
    have HBW9 : Hid (Blk v9 (w5.heap.size + 1) 29 #[.string ⟨A.name.toArray⟩, .slice a1 A.uses.length ac1, .slice pz2 (A.datas.length + B.datas.length) kz2, .slice pz3 (A.traits.length + B.traits.length) kz3, .slice pz4 (A.impls.length + B.impls.length) kz4, .slice a5 A.funcs.length ac5]) := Lib.hid (by simpa using hB)
    have K9 := Lib.hid (K8.out.trans hK)
    have S2_9 := Lib.hid (S2_8.out.mono (N' := fun k => k ≠ w5.heap.size + 1) (w' := v9) (fun k hk hl => ⟨hk, hK.block k hl (by simpa using hk)⟩))
    have S3_9 := Lib.hid (S3_8.out.mono (N' := fun k => k ≠ w5.heap.size + 1) (w' := v9) (fun k hk hl => ⟨hk, hK.block k hl (by simpa using hk)⟩))
    have S4_9 := Lib.hid hR
    clear hK hB hR xa xb xw xf lA lB lW xa0 xb0 Y0 Z0 RA RA0 RB HINF iz0 iz1 iz2 i0
    go_wp2_with fail
    have hZ : v6.heap.size ≤ v9.heap.size := K9.out.size
    have hz6 := HZ6.out
    have xa := ((HBA6.out.keep K9.out (by simp; omega)).cell 5 : v9.cell? ⟨w3.heap.size, 5, none⟩ = some (.slice a5 A.funcs.length ac5))
    have xb := ((HBB6.out.keep K9.out (by simp; omega)).cell 5 : v9.cell? ⟨w4.heap.size, 5, none⟩ = some (.slice b5 B.funcs.length bc5))
    have xw := (HBW9.out.cell 5 : v9.cell? ⟨w5.heap.size + 1, 5, none⟩ = some (.slice a5 A.funcs.length ac5))
    have xf := (HBW9.out.frozen 5 : v9.frozen? ⟨w5.heap.size + 1, 5, none⟩ = false)
    have lA : w3.heap.size < v9.heap.size := by omega
    have lB : w4.heap.size < v9.heap.size := by omega
    have lW : w5.heap.size + 1 < v9.heap.size := by omega
    have RA := Lib.hid (A65.out.mono (N' := fun k => k < w5.heap.size) (w' := v9) (fun k hk hl => ⟨hk, K9.out.block k hl (by simp; omega)⟩))
    have RB := Lib.hid (B65.out.mono (N' := fun k => k < w5.heap.size) (w' := v9) (fun k hk hl => ⟨hk, K9.out.block k hl (by simp; omega)⟩))
    obtain ⟨i0, hinf, iz0, iz1, iz2⟩ := info_parts info_func
    have HINF := Lib.hid hinf
    clear hinf
    have Y0 : Hid (Fr [] v9 (v9.alloc (.cells #[] 54)).drew) := Lib.hid ((Fr.refl [] v9).alloc _).drew
    have xa0 : (v9.alloc (.cells #[] 54)).drew.cell? ⟨w3.heap.size, 5, none⟩ = some (.slice a5 A.funcs.length ac5) := (Y0.out.cell lA (by simp) 5).trans xa
    have xb0 : (v9.alloc (.cells #[] 54)).drew.cell? ⟨w4.heap.size, 5, none⟩ = some (.slice b5 B.funcs.length bc5) := (Y0.out.cell lB (by simp) 5).trans xb
    have Z0 : Hid (LisZ (v9.alloc (.cells #[] 54)).drew w5.heap.size v9.heap.size 54 10 0 .nil (.slice (some ⟨v9.heap.size, 0, none⟩) 0 0)) := Lib.hid (LisZ.new (P := w5.heap.size) (w := v9) rfl : LisZ (v9.alloc (.cells #[] 54)) w5.heap.size v9.heap.size 54 10 0 .nil (.slice (some ⟨v9.heap.size, 0, none⟩) 0 0))
    have RA0 := Lib.hid (RA.out.mono (N' := fun k => k < w5.heap.size) (fun k hk hl => ⟨hk, Y0.out.block k hl (by simp)⟩))
    clear hZ hz6
    go_cut [4] (fun s4 wx => s4 = .bool false ∧ Left v9 (w5.heap.size + 1) 5 #[.string ⟨A.name.toArray⟩, .slice a1 A.uses.length ac1, .slice pz2 (A.datas.length + B.datas.length) kz2, .slice pz3 (A.traits.length + B.traits.length) kz3, .slice pz4 (A.impls.length + B.impls.length) kz4, .slice a5 A.funcs.length ac5] 54 10 (A.funcs.length + B.funcs.length) ((rowsQ funcQ A.funcs).app (rowsQ funcQ B.funcs)) wx)
    case first =>
     go_region_law (first | (refine step_append_first _ (by rfl) _ _ 27 (by rfl) w5.heap.size v9.heap.size 54 i0 _ 10 192 Tryz.underlying27 HINF.out iz0 iz1 iz2 rfl (by decide) (.slice (some ⟨v9.heap.size, 0, none⟩) 0 0) (.slice a5 A.funcs.length ac5) A.funcs.length (rowsQ funcQ A.funcs) (by rfl) (by rfl) (by omega) Z0.out RA0.out (by omega) (by decide) ?_; intro p1 k1 y1 hL1 hg1; have Y1 := Lib.hid (Y0.out.grown hg1 (fun k hk => by simp [Value.ownBlock] at hk; omega)); have xb1 := (Y1.out.cell lB (by simp) 5).trans xb; have xw1 := (Y1.out.cell lW (by simp) 5).trans xw; have xf1 := (Y1.out.frozen lW (by simp) 5).trans xf; have lB1 := fr_lt Y1.out lB; have lW1 := fr_lt Y1.out lW; have L1 := Lib.hid hL1; have RB1 := Lib.hid (RB.out.mono (N' := fun k => k < w5.heap.size) (fun k hk hl => ⟨hk, Y1.out.block k hl (by simp)⟩)); clear hL1 hg1) | (refine step_append_z _ (by rfl) _ _ 27 (by rfl) w5.heap.size v9.heap.size 54 i0 _ 10 192 Tryz.underlying27 HINF.out iz0 iz1 iz2 rfl (by decide) (.slice p1 A.funcs.length k1) (.slice b5 B.funcs.length bc5) A.funcs.length B.funcs.length (rowsQ funcQ A.funcs) (rowsQ funcQ B.funcs) (by rfl) (by rfl) (by omega) L1.out RB1.out (by omega) (by decide) ?_; intro p2 k2 y2 hL2 hg2; have Y2 := Lib.hid (Y1.out.grown hg2 (L1.out.own)); have xw2 := (Y2.out.cell lW (by simp) 5).trans xw; have xf2 := (Y2.out.frozen lW (by simp) 5).trans xf; have lW2 := fr_lt Y2.out lW; have L2 := Lib.hid hL2; clear hL2 hg2))
     all_goals (try go_wp2_with fail)
     all_goals (go_meet; exact ⟨rfl, Left.of Y2.out HBW9.out L2.out (by omega)⟩)
    case rest =>
     obtain ⟨rfl, pz5, kz5, hK, hB, hR⟩ := hcut
     obtain ⟨v10, hv⟩ : ∃ v : World, v = wc := ⟨_, rfl⟩
     subst hv
     have HBW10 : Hid (Blk v10 (w5.heap.size + 1) 29 #[.string ⟨A.name.toArray⟩, .slice a1 A.uses.length ac1, .slice pz2 (A.datas.length + B.datas.length) kz2, .slice pz3 (A.traits.length + B.traits.length) kz3, .slice pz4 (A.impls.length + B.impls.length) kz4, .slice pz5 (A.funcs.length + B.funcs.length) kz5]) := Lib.hid (by simpa using hB)
     have K10 := Lib.hid (K9.out.trans hK)
     have S2_10 := Lib.hid (S2_9.out.mono (N' := fun k => k ≠ w5.heap.size + 1) (w' := v10) (fun k hk hl => ⟨hk, hK.block k hl (by simpa using hk)⟩))
     have S3_10 := Lib.hid (S3_9.out.mono (N' := fun k => k ≠ w5.heap.size + 1) (w' := v10) (fun k hk hl => ⟨hk, hK.block k hl (by simpa using hk)⟩))
     have S4_10 := Lib.hid (S4_9.out.mono (N' := fun k => k ≠ w5.heap.size + 1) (w' := v10) (fun k hk hl => ⟨hk, hK.block k hl (by simpa using hk)⟩))
     have S5_10 := Lib.hid hR
     clear hK hB hR xa xb xw xf lA lB lW xa0 xb0 Y0 Z0 RA RA0 RB HINF iz0 iz1 iz2 i0
     have hZ : v6.heap.size ≤ v10.heap.size := K10.out.size
     have hz6 := HZ6.out
     have q0 := ((HBC6.out.keep K10.out (by simp)).cell 0 : v10.cell? ⟨w5.heap.size, 0, none⟩ = some (.string ⟨C.name.toArray⟩))
     have q1 := ((HBC6.out.keep K10.out (by simp)).cell 1 : v10.cell? ⟨w5.heap.size, 1, none⟩ = some (.slice c1 C.uses.length cc1))
     have q2 := ((HBC6.out.keep K10.out (by simp)).cell 2 : v10.cell? ⟨w5.heap.size, 2, none⟩ = some (.slice c2 C.datas.length cc2))
     have q3 := ((HBC6.out.keep K10.out (by simp)).cell 3 : v10.cell? ⟨w5.heap.size, 3, none⟩ = some (.slice c3 C.traits.length cc3))
     have q4 := ((HBC6.out.keep K10.out (by simp)).cell 4 : v10.cell? ⟨w5.heap.size, 4, none⟩ = some (.slice c4 C.impls.length cc4))
     have q5 := ((HBC6.out.keep K10.out (by simp)).cell 5 : v10.cell? ⟨w5.heap.size, 5, none⟩ = some (.slice c5 C.funcs.length cc5))
     have u0 := (HBW10.out.cell 0 : v10.cell? ⟨w5.heap.size + 1, 0, none⟩ = some (.string ⟨A.name.toArray⟩))
     have u1 := (HBW10.out.cell 1 : v10.cell? ⟨w5.heap.size + 1, 1, none⟩ = some (.slice a1 A.uses.length ac1))
     have u2 := (HBW10.out.cell 2 : v10.cell? ⟨w5.heap.size + 1, 2, none⟩ = some (.slice pz2 (A.datas.length + B.datas.length) kz2))
     have u3 := (HBW10.out.cell 3 : v10.cell? ⟨w5.heap.size + 1, 3, none⟩ = some (.slice pz3 (A.traits.length + B.traits.length) kz3))
     have u4 := (HBW10.out.cell 4 : v10.cell? ⟨w5.heap.size + 1, 4, none⟩ = some (.slice pz4 (A.impls.length + B.impls.length) kz4))
     have u5 := (HBW10.out.cell 5 : v10.cell? ⟨w5.heap.size + 1, 5, none⟩ = some (.slice pz5 (A.funcs.length + B.funcs.length) kz5))
     have lC : w5.heap.size < v10.heap.size := by omega
     have lW : w5.heap.size + 1 < v10.heap.size := by omega
     have hC : Hid (ModIn v10 C [.string ⟨C.name.toArray⟩, .slice c1 C.uses.length cc1, .slice c2 C.datas.length cc2, .slice c3 C.traits.length cc3, .slice c4 C.impls.length cc4, .slice c5 C.funcs.length cc5]) := Lib.hid (ModG.mono C6.out (fun k hk hl => ⟨by have : k < w5.heap.size := hk; omega, K10.out.block k hl (by simp; have : k < w5.heap.size := hk; omega)⟩))
     have hW : Hid (ModIn v10 (plusM A B) [.string ⟨A.name.toArray⟩, .slice a1 A.uses.length ac1, .slice pz2 (A.datas.length + B.datas.length) kz2, .slice pz3 (A.traits.length + B.traits.length) kz3, .slice pz4 (A.impls.length + B.impls.length) kz4, .slice pz5 (A.funcs.length + B.funcs.length) kz5]) := Lib.hid (ModIn.of (N := fun k => k ≠ w5.heap.size + 1) ⟨_, _, _, _, _, rfl, U6.out.mono (fun k hk hl => ⟨by have : k < w5.heap.size := hk; omega, K10.out.block k hl (by simp; have : k < w5.heap.size := hk; omega)⟩), by simpa [plusM, rowsQ_app] using S2_10.out, by simpa [plusM, rowsQ_app] using S3_10.out, by simpa [plusM, rowsQ_app] using S4_10.out, by simpa [plusM, rowsQ_app] using S5_10.out⟩)
     clear hZ hz6
     go_wp2_with fail
     refine (same_facts C (plusM A B) false _ _ _ hC.out hW.out HFC.out (by rw [← HFC.out]; exact hfl)).mono ?_
     rintro e w' ⟨rfl, hf⟩
     have HFE := Lib.hid ((Fr.drop (((HF6.out.more (w5.heap.size + 1)).trans K10.out)) (by have := HW5.out; omega)).trans hf)
     clear hf
     go_wp2_with fail
     go_ret
     exact ⟨rfl, HFE.out⟩
end Go.Proofs.YtpdhiminpdmpiaaGreatDoor
/-
 The walk of ParserItems, for every two texts.
-/
set_option linter.unusedVariables false
set_option linter.unusedSimpArgs false
set_option linter.unusedSectionVars false
namespace Go.Proofs.YtpdhiminpdmpiaaGreatDoor
open Go.RowKit Go.Lib
open Lx (Tk)
open Px (Txt TyE VarD DataD TraitD BoundD ImplD ArgD ExprD StmtD ArmD FuncD ModD)
/-- a text that is a module: its tokens, and what is read of them -/
theorem parse_zero {l : List UInt8} (h : (Px.parseP l).2.1 = 0) : ∃ ts a M r, Lx.lexL l = (ts, 0, a) ∧ Px.module l.length 6001 ts = .ok M r ∧ Px.parseP l = (some M, 0, 0) := by
 obtain ⟨ts, er, a, hr⟩ : ∃ ts er a, Lx.lexL l = (ts, er, a) := ⟨_, _, _, rfl⟩
 by_cases he : er = 0
 ·subst he
  have hp := parseP_ok hr
  cases hm : Px.module l.length 6001 ts with
  | ok M r =>
   rw [hm] at hp
   exact ⟨ts, a, M, r, hr, hm, hp⟩
  | bad r =>
   rw [hm] at hp
   rw [hp] at h
   cases r <;> cases h
 ·exfalso
  apply he
  unfold Px.parseP at h
  rw [hr] at h
  cases er with
  | zero => rfl
  | succ n => simp at h
theorem pitems_any (s t : ByteArray) (w : World) (hs : s.size ≤ 140737488355328) (ht : t.size ≤ 140737488355328) (hL : Libs w) (h0 : 0 < w.heap.size) :
  Calls Tryz.prog 5 #[.string s, .string t] w (PGood w) := by
 by_cases hbad : 1000 < t.size ∨ (Lx.lexL t.data.toList).2.1 ≠ 0 ∨ 1000 < s.size ∨ (errP s.data.toList).1 ≠ 0 ∨ (errP t.data.toList).1 ≠ 0
 ·exact pitems_bad s t w hs ht hL h0 hbad
 ·have b1 : t.size ≤ 1000 := by omega
  have b2 : s.size ≤ 1000 := by omega
  have b3 : (errP s.data.toList).1 = 0 := by omega
  have b4 : (errP t.data.toList).1 = 0 := by omega
  obtain ⟨ts1, a1, A, r1, l1, m1, p1⟩ := parse_zero (l := s.data.toList) b3
  obtain ⟨ts2, a2, B, r2, l2, m2, p2⟩ := parse_zero (l := t.data.toList) b4
  have l2' : Lx.lexL t.data.toList = (ts2, 0, 0) := by
   have := (lex_facts l2).1
   rw [l2, this]
  have e1 : s.data.toList.length = s.size := by simp
  have e2 : t.data.toList.length = t.size := by simp
  by_cases hu : B.uses = []
  ·obtain ⟨t0, t1, t2, r3, hts, hoff, ts, C, lc, mc, hfc⟩ := items_law l1 l2 m1 m2 hu (by omega) (by omega)
   have hpc : Px.parseP (s.data.toList ++ 10 :: t.data.toList.drop (t2.off + 1)) = (some C, 0, 0) := by
    have := parseP_ok lc
    rw [mc] at this
    exact this
   have hfew := (lex_facts lc).2.2.1
   have hff := facts_few (off := false) mc
   exact pitems_good s t w hs ht hL h0 A B C t0 t1 t2 r3 ts2 hts l2' b2 b1 p1 p2 hu (by omega) hpc hfc (by omega)
  ·exact pitems_uses s t w hs ht hL h0 B ts2 l2' b2 b1 b3 p2 hu
end Go.Proofs.YtpdhiminpdmpiaaGreatDoor
