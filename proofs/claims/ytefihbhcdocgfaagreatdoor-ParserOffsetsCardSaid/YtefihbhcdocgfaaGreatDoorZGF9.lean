/-
  The walk of the reader of match.
-/
import Derived.Test.YtefihbhcdocgfaaGreatDoorZGF8
import Derived.Test.YtefihbhcdocgfaaGreatDoorZK
import Derived.Deep.RegionLaw
set_option linter.unusedVariables false
set_option linter.unusedSimpArgs false
set_option linter.unusedSectionVars false

namespace Go.Proofs.YtefihbhcdocgfaaGreatDoor
open Go.RowKit Go.Lib
open Lx (Tk)
open Px (Txt TyE VarD DataD TraitD BoundD ImplD ArgD ExprD StmtD ArmD FuncD ModD)

theorem Blk.drew {w : World} {b T : Nat} {cs : Array Value} (h : Blk w b T cs) : Blk w.drew b T cs := h
/-- a reading call, both ways at once -/
theorem app_A {E s : Nat} {α : Type} {f : α → Q} {a : α} {l : List α} {R B g : Nat} {xs : List Value} {w4 wc w5 : World} {v2 : Value}
    (hg : g = w4.heap.size) (hB : B ≤ w4.heap.size) (hblk : Blk wc g E xs.toArray) (hl : xs.length = s) (hf : Fr [R] wc w5) (hR : R < B) (hrep : Rep w4 (fun k => B ≤ k) (f a) xs) (h4 : Fr [] w4 wc)
    (hv : okRow E s f wc.heap.size l w5 v2) (hgc : g < wc.heap.size) :
    ListAt w5 B E s 1 (f a) (.slice (some ⟨g, 0, none⟩) 1 1) ∧ RowV w5 (fun k => B ≤ k ∧ some k ≠ (Value.slice (some ⟨g, 0, none⟩) 1 1).ownBlock) E s l.length (rowsQ f l) v2 := by
  subst hg
  refine ⟨ListAt.one hB (hblk.keep hf (by simp; omega)) hl ?_, ?_⟩
  · exact (hrep.mono (N' := fun k => B ≤ k ∧ k ≠ w4.heap.size) (fun k hk hlt => ⟨⟨hk, by omega⟩, h4.block k hlt (by simp)⟩)).mono (fun k hk hlt => ⟨hk, hf.block k hlt (by simp; have := hk.1; omega)⟩)
  · exact RowV.mono hv (fun k hk hlt => ⟨⟨by omega, by simp [Value.ownBlock]; omega⟩, rfl⟩)
theorem app_B {E s : Nat} {α : Type} {f : α → Q} {a : α} {l : List α} {R B : Nat} {xs : List Value} {w4 wc w5 : World} {v2 : Value}
    (hB : B ≤ w4.heap.size) (hl : xs.length = s) (hf : Fr [R] wc w5) (hR : R < B) (hrep : Rep w4 (fun k => B ≤ k) (f a) xs) (h4 : Fr [] w4 wc)
    (hv : okRow E s f wc.heap.size l w5 v2) (E' : Nat) (hE : E' = E := by rfl) :
    ListAt (w5.alloc (.cells xs.toArray E')) B E s 1 (f a) (.slice (some ⟨w5.heap.size, 0, none⟩) 1 1) ∧ RowV (w5.alloc (.cells xs.toArray E')) (fun k => B ≤ k ∧ some k ≠ (Value.slice (some ⟨w5.heap.size, 0, none⟩) 1 1).ownBlock) E s l.length (rowsQ f l) v2 := by
  subst hE
  have hz := h4.size
  have hz2 := hf.size
  refine ⟨ListAt.one (by omega) (Blk.new _ _ _) hl ?_, ?_⟩
  · exact (hrep.mono (N' := fun k => B ≤ k ∧ k < w4.heap.size) (fun k hk hlt => ⟨⟨hk, hlt⟩, h4.block k hlt (by simp)⟩)).mono (w' := w5.alloc (.cells xs.toArray E')) (fun k hk hlt => ⟨⟨hk.1, by have := hk.2; omega⟩, (Below.heap_alloc _ _ _ (by omega)).trans (hf.block k hlt (by simp; have := hk.1; omega))⟩)
  · exact RowV.mono hv (fun k hk hlt => ⟨⟨by omega, by simp [Value.ownBlock]; omega⟩, Below.heap_alloc _ _ _ hlt⟩)
theorem arms_row {w : World} {B E s : Nat} {α : Type} {f : α → Q} {a : α} {l : List α} {v : Value} (h : ListAt w B E s (1 + l.length) ((f a).app (rowsQ f l)) v) : okRow E s f B (a :: l) w v := by
  unfold okRow
  rw [List.length_cons, Nat.add_comm]
  exact h.row
theorem arms_after {c : Ctx} {ts : List Tk} {w4 wc w5 : World} {b T A g m : Nat} {cs : Array Value} {y0 y1 y2 y3 : Value} (hI : Inv c ts w4) (hD : Blk w4 b T cs) (hA : Blk w4 g A #[y0, y1, y2, y3]) (h4 : Fr [] w4 wc) (hf : Fr [c.R] wc w5) (hg : c.R < g) (hb : b ≠ c.R) (hm : m ≤ g) :
    Fr [c.R, b] w4 w5 ∧ Blk w5 b T cs ∧ w5.cell? ⟨g, 0, none⟩ = some y0 ∧ w5.cell? ⟨g, 1, none⟩ = some y1 ∧ w5.cell? ⟨g, 2, none⟩ = some y2 ∧ w5.cell? ⟨g, 3, none⟩ = some y3 ∧ w4.heap.size ≤ w5.heap.size := by
  have hw : Fr [c.R] w4 w5 := (h4.mono (fun k _ hk => by cases hk)).trans hf
  have hA5 := hA.keep hw (by simp; omega)
  exact ⟨hw.wide, hD.keep hw (by simpa using hb), hA5.cell 0, hA5.cell 1, hA5.cell 2, hA5.cell 3, hw.size⟩
theorem row_len {c : Ctx} {ts ts' : List Tk} {w : World} {α : Type} {read : Px.Rd α} {l : List α} (hI : Inv c ts w) (hs : Strict read) (h : Px.untilBrace read ts = .ok l ts') : l.length ≤ 6000 := by
  have key : ∀ (n : Nat) (acc : List α) (ts : List Tk), Px.untilT read n acc ts = .ok l ts' → l.length ≤ acc.length + ts.length := by
    intro n
    induction n with
    | zero => intro acc ts h; cases h
    | succ n ih =>
      intro acc ts h
      by_cases hc : ([[125]] : List Txt).contains (Px.word ts) = true
      · rw [untilT_no (r := ts.tail) (by simp only [Px.accept]; rw [if_pos hc])] at h
        cases h; omega
      · have ha : Px.accept [[125]] ts = .ok false ts := by simp only [Px.accept]; rw [if_neg hc]
        cases hr : read ts with
        | ok a r =>
          rw [untilT_ok ha hr] at h
          have h1 := ih _ _ h
          have h2 := hs _ _ _ hr
          simp at h1; omega
        | bad r => rw [untilT_bad ha hr] at h; cases h
  have := key _ _ _ h
  have := hI.few
  simp at *; omega
theorem blk_grown_A {w4 w5 w6 : World} {B b T n cc : Nat} {cs : Array Value} (h : Blk w5 b T cs) (hg : w5.grownBy w6 (Value.slice (some ⟨w4.heap.size, 0, none⟩) n cc).ownBlock) (hb : b < B) (hB : B ≤ w4.heap.size) (hz : w4.heap.size ≤ w5.heap.size) : Blk w6 b T cs :=
  h.grown hg (fun k e => by simp [Value.ownBlock] at e; omega)
theorem blk_grown_B {w4 w5 w6 : World} {B b T n cc : Nat} {cs : Array Value} {o : Obj} (h : Blk w5 b T cs) (hg : (w5.alloc o).grownBy w6 (Value.slice (some ⟨w5.heap.size, 0, none⟩) n cc).ownBlock) (hb : b < B) (hB : B ≤ w4.heap.size) (hz : w4.heap.size ≤ w5.heap.size) : Blk w6 b T cs :=
  (h.alloc o).grown hg (fun k e => by simp [Value.ownBlock] at e; omega)
theorem inv_grown_A {c : Ctx} {ts ts0 : List Tk} {w w4 w5 w6 : World} {n cc : Nat} (h : Inv c ts w5) (h0 : Inv c ts0 w) (hg : w5.grownBy w6 (Value.slice (some ⟨w4.heap.size, 0, none⟩) n cc).ownBlock) (hB : w.heap.size ≤ w4.heap.size) (_ : w4.heap.size ≤ w5.heap.size) : Inv c ts w6 :=
  h.grown h0 hg (fun k e => by simp [Value.ownBlock] at e; omega)
theorem inv_grown_B {c : Ctx} {ts ts0 : List Tk} {w w4 w5 w6 : World} {n cc : Nat} {o : Obj} (h : Inv c ts w5) (h0 : Inv c ts0 w) (hg : (w5.alloc o).grownBy w6 (Value.slice (some ⟨w5.heap.size, 0, none⟩) n cc).ownBlock) (hB : w.heap.size ≤ w4.heap.size) (hz : w4.heap.size ≤ w5.heap.size) : Inv c ts w6 :=
  (h.alloc o).grown h0 hg (fun k e => by simp [Value.ownBlock] at e; omega)
theorem fr_grown_A {X : List Nat} {w w4 w5 w6 : World} {n cc : Nat} (h : Fr X w w5) (hg : w5.grownBy w6 (Value.slice (some ⟨w4.heap.size, 0, none⟩) n cc).ownBlock) (hB : w.heap.size ≤ w4.heap.size) (_ : w4.heap.size ≤ w5.heap.size) : Fr X w w6 :=
  h.grown hg (fun k e => by simp [Value.ownBlock] at e; omega)
theorem fr_grown_B {X : List Nat} {w w4 w5 w6 : World} {n cc : Nat} {o : Obj} (h : Fr X w w5) (hg : (w5.alloc o).grownBy w6 (Value.slice (some ⟨w5.heap.size, 0, none⟩) n cc).ownBlock) (hB : w.heap.size ≤ w4.heap.size) (hz : w4.heap.size ≤ w5.heap.size) : Fr X w w6 :=
  (h.alloc o).grown hg (fun k e => by simp [Value.ownBlock] at e; omega)

set_option maxRecDepth 100000 in
set_option maxHeartbeats 1600000 in
theorem match_any (c : Ctx) (o : Nat) (ts : List Tk) (w : World) (h : Inv c ts w) (b : Nat) (hap : c.Apart b) (hD : Blk w b 75 #[.int .i64 6, .string ⟨#[]⟩, .slice none 0 0, .slice none 0 0, .int .i64 0, .string ⟨#[]⟩, .string ⟨#[]⟩, .string ⟨#[]⟩, .slice none 0 0, .int .i64 0, .slice none 0 0, .int .i64 0, .slice none 0 0, .slice none 0 0, .slice none 0 0, .slice none 0 0, .int .i64 o]) (n m : Nat) (S : Px.Rd StmtD) (hty : Reads c 87 n (okAgg typeQ) (Px.typeF c.size n)) (hst : Reads c 115 m (okAgg stmtQ) S) (hsh : Shr S) (hstr : Strict S) (hm : ts.length < n) (hm2 : ts.length < m) (hra : Reads c 90 m (okAgg armQ) (Px.arm c.size S)) :
    Calls Tryz.prog 54 #[.pointer (some ⟨c.R, 0, none⟩), .pointer (some ⟨b, 0, none⟩)] w (RPB c b 75 w (okCells stmtQ) (Px.matchS c.size S o ts)) := by
  have HTY : Hid (Reads c 87 n (okAgg typeQ) (Px.typeF c.size n)) := Lib.hid hty
  have HST : Hid (Reads c 115 m (okAgg stmtQ) S) := Lib.hid hst
  have HSH := Lib.hid hsh
  have HSTR : Hid (Strict S) := Lib.hid hstr
  clear hty hst hsh hstr
  have hmf := make_func
  have HRA : Hid (Reads c 90 m (okAgg armQ) (Px.arm c.size S)) := Lib.hid hra
  clear hra
  obtain ⟨i0, hi, iz0, iz1, iz2⟩ := info_parts info_arm
  have HINF := Lib.hid hi
  clear hi
  have H := Lib.hid h
  have HD0 := Lib.hid hD
  have HR0 := H.out.lt.1
  have hb0 : b ≠ c.R := hap.1
  have hb1 : b < w.heap.size := hD.lt
  clear h hD
  go_enter Tryz.func54, Tryz.ntmps54
  go_wp2_with fail
  refine (name_any c ts _ (by exact H.out.frp hap (by repeat' (first | with_reducible exact Fr.refl _ _ | with_reducible refine Fr.setCell ?_ (Or.inl ?_) _ | with_reducible refine Fr.alloc ?_ _ | with_reducible refine Fr.drewN ?_ _ | (simp; done))))).mono ?_
  rintro e w1 hp
  rcases hp.cases with ⟨x1, ts1, v1, hq1, hf, hi, rfl, hv⟩ | ⟨ts1, hq1, hf, hi, rfl⟩
  · clear hp
    obtain rfl := hv
    have hT : Fr [c.R, b] w w1 := Fr.trans (by repeat' (first | with_reducible exact Fr.refl _ _ | with_reducible refine Fr.setCell ?_ (Or.inl ?_) _ | with_reducible refine Fr.alloc ?_ _ | with_reducible refine Fr.drewN ?_ _ | (simp; done))) hf.wide
    have HD1 : Hid (Blk w1 (b) 75 #[.int .i64 6, .string ⟨#[]⟩, .slice none 0 0, .slice none 0 0, .int .i64 0, .string ⟨#[]⟩, .string ⟨#[]⟩, .string ⟨#[]⟩, .slice none 0 0, .int .i64 0, .slice none 0 0, .int .i64 0, .slice none 0 0, .slice none 0 0, .slice none 0 0, .slice none 0 0, .int .i64 o]) := Lib.hid (HD0.out.keep hf (by simp; omega))
    have HI1 := Lib.hid hi
    have HF1 := Lib.hid ((Fr.refl [c.R, b] w).trans hT)
    have hz1 := hf.size
    try simp at hz1
    have hl1 : ts1.length < ts.length := Strict.name _ _ _ hq1.out
    clear hT hf hi
    have hlD : b < w1.heap.size := HD1.out.lt
    have d1 : w1.cell? ⟨b, 1, none⟩ = some (.string ⟨#[]⟩) := HD1.out.cell 1
    have f1 : w1.frozen? ⟨b, 1, none⟩ = false := HD1.out.frozen 1
    go_wp2_with fail
    clear hlD d1 f1
    refine (expect_any c ts1 [[123]] _ _ 1 (by exact HI1.out.frp hap (by repeat' (first | with_reducible exact Fr.refl _ _ | with_reducible refine Fr.setCell ?_ (Or.inl ?_) _ | with_reducible refine Fr.alloc ?_ _ | with_reducible refine Fr.drewN ?_ _ | (simp; done)))) rfl (by exact Blk.new_at (by simp)) rfl (by decide)).mono ?_
    rintro e w2 hp
    rcases hp.cases with ⟨x2, ts2, v2, hq2, hf, hi, rfl, hv⟩ | ⟨ts2, hq2, hf, hi, rfl⟩
    · clear hp
      obtain rfl := hv
      have hT : Fr [c.R, b] w1 w2 := Fr.trans (by repeat' (first | with_reducible exact Fr.refl _ _ | with_reducible refine Fr.setCell ?_ (Or.inl ?_) _ | with_reducible refine Fr.alloc ?_ _ | with_reducible refine Fr.drewN ?_ _ | (simp; done))) hf.wide
      have HD2 : Hid (Blk w2 (b) 75 #[.int .i64 6, .string ⟨x1.toArray⟩, .slice none 0 0, .slice none 0 0, .int .i64 0, .string ⟨#[]⟩, .string ⟨#[]⟩, .string ⟨#[]⟩, .slice none 0 0, .int .i64 0, .slice none 0 0, .int .i64 0, .slice none 0 0, .slice none 0 0, .slice none 0 0, .slice none 0 0, .int .i64 o]) := Lib.hid ((Blk.alloc (HD1.out.set 1 (.string ⟨x1.toArray⟩)) _).keep hf (by simp; omega))
      have HI2 := Lib.hid hi
      have HF2 := Lib.hid (HF1.out.trans hT)
      have hz2 := hf.size
      try simp at hz2
      have hl2 : ts2.length ≤ ts1.length := (Shr.expect _).ok hq2.out
      clear hT hf hi
      have hlD : b < w2.heap.size := HD2.out.lt
      go_wp2_with fail
      clear hlD
      refine (arm_any c ts2 _ (by exact HI2.out.frp hap (by repeat' (first | with_reducible exact Fr.refl _ _ | with_reducible refine Fr.setCell ?_ (Or.inl ?_) _ | with_reducible refine Fr.alloc ?_ _ | with_reducible refine Fr.drewN ?_ _ | (simp; done)))) n m S HTY.out HST.out HSH.out HSTR.out (by omega) (by omega)).mono ?_
      rintro e w3 hp
      rcases hp.cases with ⟨x3, ts3, v3, hq3, hf, hi, rfl, hv⟩ | ⟨ts3, hq3, hf, hi, rfl⟩
      · clear hp
        obtain ⟨cs, rfl, hrep⟩ := hv
        obtain ⟨y3_0, y3_1, y3_2, y3_3, rfl⟩ := cells_4 (hrep.len.trans (len_armQ x3))
        obtain ⟨s3_0, rfl⟩ := hrep.kind 0 rfl (kind_armQ x3 0 rfl)
        obtain ⟨p3_1, n3_1, c3_1, rfl⟩ := hrep.kind 1 rfl (kind_armQ x3 1 rfl)
        obtain ⟨p3_2, n3_2, c3_2, rfl⟩ := hrep.kind 2 rfl (kind_armQ x3 2 rfl)
        obtain ⟨i3_3, rfl⟩ := hrep.kind 3 rfl (kind_armQ x3 3 rfl)
        have hV3 : Rep w3 (fun k => w.heap.size ≤ k) _ _ := hrep.mono (fun k hk _ => ⟨by (try simp at hk); omega, rfl⟩)
        have hT : Fr [c.R, b] w2 w3 := Fr.trans (by repeat' (first | with_reducible exact Fr.refl _ _ | with_reducible refine Fr.setCell ?_ (Or.inl ?_) _ | with_reducible refine Fr.alloc ?_ _ | with_reducible refine Fr.drewN ?_ _ | (simp; done))) hf.wide
        have HD3 : Hid (Blk w3 (b) 75 #[.int .i64 6, .string ⟨x1.toArray⟩, .slice none 0 0, .slice none 0 0, .int .i64 0, .string ⟨#[]⟩, .string ⟨#[]⟩, .string ⟨#[]⟩, .slice none 0 0, .int .i64 0, .slice none 0 0, .int .i64 0, .slice none 0 0, .slice none 0 0, .slice none 0 0, .slice none 0 0, .int .i64 o]) := Lib.hid (HD2.out.keep hf (by simp; omega))
        have HI3 := Lib.hid hi
        have HF3 := Lib.hid (HF2.out.trans hT)
        have hz3 := hf.size
        try simp at hz3
        have HV3 := Lib.hid hV3
        have hl3 : ts3.length ≤ ts2.length := (shr_arm _ HSH.out).ok hq3.out
        clear hT hf hi hV3 hrep
        go_wp2_with fail
        obtain ⟨w4, hw4⟩ : ∃ w4, w4 = w3.alloc (.cells #[.string s3_0, .slice p3_1 n3_1 c3_1, .slice p3_2 n3_2 c3_2, .int .i64 i3_3] 151) := ⟨_, rfl⟩
        have HI4 : Hid (Inv c ts3 w4) := Lib.hid (by rw [hw4]; exact HI3.out.alloc _)
        have HF4 : Hid (Fr [c.R, b] w w4) := Lib.hid (by rw [hw4]; exact HF3.out.alloc _)
        have HD4 : Hid (Blk w4 b 75 #[.int .i64 6, .string ⟨x1.toArray⟩, .slice none 0 0, .slice none 0 0, .int .i64 0, .string ⟨#[]⟩, .string ⟨#[]⟩, .string ⟨#[]⟩, .slice none 0 0, .int .i64 0, .slice none 0 0, .int .i64 0, .slice none 0 0, .slice none 0 0, .slice none 0 0, .slice none 0 0, .int .i64 o]) := Lib.hid (by rw [hw4]; exact HD3.out.alloc _)
        have HA4 : Hid (Blk w4 w3.heap.size 151 #[.string s3_0, .slice p3_1 n3_1 c3_1, .slice p3_2 n3_2 c3_2, .int .i64 i3_3]) := Lib.hid (by rw [hw4]; exact Blk.new _ _ _)
        have HV4 : Hid (Rep w4 (fun k => w.heap.size ≤ k) (armQ x3) [.string s3_0, .slice p3_1 n3_1 c3_1, .slice p3_2 n3_2 c3_2, .int .i64 i3_3]) := Lib.hid (by rw [hw4]; exact rep_own HV3.out (X := []) ((Fr.refl _ _).alloc _) (by simp) (by omega))
        have hz4 : w4.heap.size = w3.heap.size + 1 := by rw [hw4]; simp
        have hz4a : w.heap.size ≤ w4.heap.size := by omega
        have hz4b : w3.heap.size < w4.heap.size := by omega
        have HZ4 := Lib.hid hz4
        have a0 : w4.cell? ⟨w3.heap.size, 0, none⟩ = some (.string s3_0) := HA4.out.cell 0
        have a1 : w4.cell? ⟨w3.heap.size, 1, none⟩ = some (.slice p3_1 n3_1 c3_1) := HA4.out.cell 1
        have a2 : w4.cell? ⟨w3.heap.size, 2, none⟩ = some (.slice p3_2 n3_2 c3_2) := HA4.out.cell 2
        have a3 : w4.cell? ⟨w3.heap.size, 3, none⟩ = some (.int .i64 i3_3) := HA4.out.cell 3
        have HBAD : Hid (∀ ts5 w5, Px.untilBrace (Px.arm c.size S) ts3 = .bad ts5 → Fr [c.R, b] w4 w5 → Inv c ts5 w5 → RPB c b 75 w (okCells stmtQ) (Px.matchS c.size S o ts) (.panicked [failE c ts5]) w5) := Lib.hid (fun ts5 w5 hb hf hi => RPB.bad (by simp only [Px.matchS, bind, Px.Rd.bind, offset_res, if_true, if_false, Bool.false_eq_true, hq1.out, hq2.out, hq3.out, hb]) (HF4.out.trans hf) hi)
        skip
        rw [← hw4]
        clear hw4 hz4
        go_region_law (first | (refine step_append_src _ (by rfl) _ _ 73 (by rfl) w.heap.size 151 i0 _ 4 72 Tryz.underlying73 HINF.out iz0 iz1 iz2 rfl (by decide) (.slice (some ⟨w4.heap.size, 0, none⟩) 1 1) (.slice p5 n5 k5) 1 l.length (armQ x3) (rowsQ armQ l) (by rfl) (by rfl) ((app_A (g := w4.heap.size) (w4 := w4) rfl hz4a (by repeat' (first | with_reducible refine Blk.new_at ?_ | with_reducible refine Blk.alloc ?_ _ | with_reducible refine Blk.drew ?_ | (simp; done) | (simp; omega))) rfl hf5 HR0 HV4.out (by repeat' (first | with_reducible exact Fr.refl _ _ | with_reducible refine Fr.alloc ?_ _ | with_reducible refine Fr.drew ?_ | with_reducible refine Fr.drewN ?_ _)) hv5 (by simp))).1 (by decide) ((app_A (g := w4.heap.size) (w4 := w4) rfl hz4a (by repeat' (first | with_reducible refine Blk.new_at ?_ | with_reducible refine Blk.alloc ?_ _ | with_reducible refine Blk.drew ?_ | (simp; done) | (simp; omega))) rfl hf5 HR0 HV4.out (by repeat' (first | with_reducible exact Fr.refl _ _ | with_reducible refine Fr.alloc ?_ _ | with_reducible refine Fr.drew ?_ | with_reducible refine Fr.drewN ?_ _)) hv5 (by simp))).2 (by have := HL5.out; omega) (by decide) (by first | omega | (simp; omega)) ?_; intro p6 c6 w6 hL6 hg6; have hD6 := Lib.hid (blk_grown_A HD5.out hg6 hb1 hz4a hzz); have hd14 : w6.cell? ⟨b, 14, none⟩ = some (.slice none 0 0) := hD6.out.cell 14; have hf14 : w6.frozen? ⟨b, 14, none⟩ = false := hD6.out.frozen 14; have HI6 := Lib.hid (inv_grown_A hi5 H.out hg6 hz4a hzz); have HF6 := Lib.hid (fr_grown_A (HF4.out.trans hw5) hg6 hz4a hzz); have HL6 := Lib.hid hL6; clear hL6 hg6) | (refine step_append_src _ (by rfl) _ _ 73 (by rfl) w.heap.size 151 i0 _ 4 72 Tryz.underlying73 HINF.out iz0 iz1 iz2 rfl (by decide) (.slice (some ⟨w5.heap.size, 0, none⟩) 1 1) (.slice p5 n5 k5) 1 l.length (armQ x3) (rowsQ armQ l) (by rfl) (by rfl) ((app_B (w4 := w4) hz4a (xs := [.string s3_0, .slice p3_1 n3_1 c3_1, .slice p3_2 n3_2 c3_2, .int .i64 i3_3]) rfl hf5 HR0 HV4.out (by repeat' (first | with_reducible exact Fr.refl _ _ | with_reducible refine Fr.alloc ?_ _ | with_reducible refine Fr.drew ?_ | with_reducible refine Fr.drewN ?_ _)) hv5 151)).1 (by decide) ((app_B (w4 := w4) hz4a (xs := [.string s3_0, .slice p3_1 n3_1 c3_1, .slice p3_2 n3_2 c3_2, .int .i64 i3_3]) rfl hf5 HR0 HV4.out (by repeat' (first | with_reducible exact Fr.refl _ _ | with_reducible refine Fr.alloc ?_ _ | with_reducible refine Fr.drew ?_ | with_reducible refine Fr.drewN ?_ _)) hv5 151)).2 (by have := HL5.out; omega) (by decide) (by first | omega | (simp; omega)) ?_; intro p6 c6 w6 hL6 hg6; have hD6 := Lib.hid (blk_grown_B HD5.out hg6 hb1 hz4a hzz); have hd14 : w6.cell? ⟨b, 14, none⟩ = some (.slice none 0 0) := hD6.out.cell 14; have hf14 : w6.frozen? ⟨b, 14, none⟩ = false := hD6.out.frozen 14; have HI6 := Lib.hid (inv_grown_B hi5 H.out hg6 hz4a hzz); have HF6 := Lib.hid (fr_grown_B (HF4.out.trans hw5) hg6 hz4a hzz); have HL6 := Lib.hid hL6; clear hL6 hg6) | (go_simp; go_at_call 91; refine Calls.both (until_arm c _ m (Px.arm c.size S) enters_arm HRA.out (strict_arm _ HSH.out) ts3 _ (by exact HI4.out.fr (X := []) H.out (by repeat' (first | with_reducible exact Fr.refl _ _ | with_reducible refine Fr.alloc ?_ _ | with_reducible refine Fr.drew ?_ | with_reducible refine Fr.drewN ?_ _)) (by simp)) (by omega)) (fun ts5 w5 h1 h2 h3 => And.intro rfl (HBAD.out ts5 w5 h1 (Fr.trans (by repeat' (first | with_reducible exact Fr.refl _ _ | with_reducible refine Fr.alloc ?_ _ | with_reducible refine Fr.drew ?_ | with_reducible refine Fr.drewN ?_ _)) h2.wide) h3)) ?_; intro l ts5 v5 w5 hq5 hf5 hi5 hv5; obtain ⟨p5, n5, k5, rfl⟩ := row_shp hv5; have hx5 := arms_after HI4.out HD4.out HA4.out (by repeat' (first | with_reducible exact Fr.refl _ _ | with_reducible refine Fr.alloc ?_ _ | with_reducible refine Fr.drew ?_ | with_reducible refine Fr.drewN ?_ _)) hf5 (by omega) hb0 (by omega); obtain ⟨hw5, hd5, e0, e1, e2, e3, hzz⟩ := hx5; have HD5 := Lib.hid hd5; have HQ5 := Lib.hid hq5.out; have hl5 := row_len HI4.out (strict_arm _ HSH.out) hq5.out; have HL5 := Lib.hid hl5; clear hd5 hq5 hl5))
        all_goals
          have hfs : Fr [b] w6 (w6.setCell ⟨b, 14, none⟩ (.slice p6 (1 + l.length) c6)) := (Fr.refl _ _).setCell (.inl (by simp)) _
          have HR6 := Lib.hid (row_own (b := w.heap.size) (arms_row HL6.out) (Nat.le_refl _) hfs (by simp; omega))
          have HF7 := Lib.hid (HF6.out.trans (hfs.mono (Y := [c.R, b]) (fun k _ hk => by simp at hk; simp [hk])))
          have HI7 := Lib.hid (HI6.out.frp hap hfs)
          have HD7 := Lib.hid (Blk.set hD6.out 14 (.slice p6 (1 + l.length) c6))
          clear hfs
          try go_wp2_with fail
          first | go_end0 | refine bodyPost_ret (results_none rfl _ _ _) rfl ?_
          exact RPB.ok (cs := [.int .i64 6, .string ⟨x1.toArray⟩, .slice none 0 0, .slice none 0 0, .int .i64 0, .string ⟨#[]⟩, .string ⟨#[]⟩, .string ⟨#[]⟩, .slice none 0 0, .int .i64 0, .slice none 0 0, .int .i64 0, .slice none 0 0, .slice none 0 0, .slice p6 (1 + l.length) c6, .slice none 0 0, .int .i64 o]) (a := .mk 6 x1 [] [] Px.expr0 [] [] (x3 :: l) [] o) (by simp only [Px.matchS, bind, Px.Rd.bind, offset_res, if_true, if_false, Bool.false_eq_true, hq1.out, hq2.out, hq3.out, HQ5.out] <;> rfl) HF7.out HI7.out HD7.out (by unfold okCells; rw [stmtQ_mk]; exact rep_int.2 ⟨_, rfl, rep_str.2 ⟨_, rfl, rep_sl.2 ⟨_, _, rfl, RowV.nil _ _ _ _, rep_sl.2 ⟨_, _, rfl, RowV.nil _ _ _ _, Rep.app (cs := [.int .i64 0, .string ⟨#[]⟩, .string ⟨#[]⟩, .string ⟨#[]⟩, .slice none 0 0, .int .i64 0, .slice none 0 0, .int .i64 0]) expr0_rep (rep_sl.2 ⟨_, _, rfl, RowV.nil _ _ _ _, rep_sl.2 ⟨_, _, rfl, RowV.nil _ _ _ _, rep_sl.2 ⟨_, _, rfl, HR6.out, rep_sl.2 ⟨_, _, rfl, RowV.nil _ _ _ _, rep_int.2 ⟨_, rfl, rep_nil.2 rfl⟩⟩⟩⟩⟩)⟩⟩⟩⟩)
      · go_wp2_with fail
        exact ⟨rfl, RPB.bad (by simp only [Px.matchS, bind, Px.Rd.bind, offset_res, if_true, if_false, Bool.false_eq_true, hq1.out, hq2.out, hq3.out]) (HF2.out.trans (Fr.trans (by repeat' (first | with_reducible exact Fr.refl _ _ | with_reducible refine Fr.setCell ?_ (Or.inl ?_) _ | with_reducible refine Fr.alloc ?_ _ | with_reducible refine Fr.drewN ?_ _ | (simp; done))) hf.wide)) hi⟩
    · go_wp2_with fail
      exact ⟨rfl, RPB.bad (by simp only [Px.matchS, bind, Px.Rd.bind, offset_res, if_true, if_false, Bool.false_eq_true, hq1.out, hq2.out]) (HF1.out.trans (Fr.trans (by repeat' (first | with_reducible exact Fr.refl _ _ | with_reducible refine Fr.setCell ?_ (Or.inl ?_) _ | with_reducible refine Fr.alloc ?_ _ | with_reducible refine Fr.drewN ?_ _ | (simp; done))) hf.wide)) hi⟩
  · go_wp2_with fail
    exact ⟨rfl, RPB.bad (by simp only [Px.matchS, bind, Px.Rd.bind, offset_res, if_true, if_false, Bool.false_eq_true, hq1.out]) ((Fr.refl [c.R, b] w).trans (Fr.trans (by repeat' (first | with_reducible exact Fr.refl _ _ | with_reducible refine Fr.setCell ?_ (Or.inl ?_) _ | with_reducible refine Fr.alloc ?_ _ | with_reducible refine Fr.drewN ?_ _ | (simp; done))) hf.wide)) hi⟩
end Go.Proofs.YtefihbhcdocgfaaGreatDoor
