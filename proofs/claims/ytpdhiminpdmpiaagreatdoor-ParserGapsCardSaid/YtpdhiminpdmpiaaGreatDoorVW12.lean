/-
 The walk of Lex.
-/
import Derived.Test.YtpdhiminpdmpiaaGreatDoorVW11
set_option linter.unusedVariables false
set_option linter.unusedSimpArgs false
set_option linter.unusedSectionVars false
set_option linter.unusedVariables false
set_option linter.unusedSimpArgs false
set_option linter.unusedSectionVars false
namespace Go.Proofs.YtpdhiminpdmpiaaGreatDoor
open Go.RowKit Go.Shelf
attribute [local go_sem] Oper.semAt_some
theorem KPb {K : Nat → Prop} {n : Nat} (hK : ∀ k, K k → k < n) : ∀ (W : World) (l : Nat) (o o' : Obj), n ≤ l → W.heap[l]? = some o → o.isCells = false → o.isWalk = false → KP K W (W.putObj l o') := fun W l o o' hl ho hc _ => by
 refine ⟨by simp, fun k x hx hk => ?_⟩
 have hne : k ≠ l := by
  rcases hk with hk | ⟨c, rfl, _⟩
  ·have := hK k hk; omega
  ·intro e; subst e; rw [ho] at hx; cases hx; cases hc
 exact (World.putObj_heap_other (by omega)).trans hx
set_option maxRecDepth 100000 in
set_option maxHeartbeats 2000000 in
theorem lex_short (s : ByteArray) (w : World) (h : s.size ≤ 20000) (hL : Libs w) :
  Calls Tryz.prog 31 #[.string s] w (LexPost w (Lx.lexL s.data.toList)) := by
 have hd : decide (20000 < (s.size : Int)) = false := by simp; omega
 have HL := Lib.hid hL
 have hE : 7 < w.heap.size := by obtain ⟨_, _, _, h3⟩ := hL.2; exact h3
 clear hL
 obtain ⟨i0, hi, hz0, hz1, hz2⟩ := info_parts info30
 refine (callsIn_wide (n := 5)).1 ?_
 refine callsIn_of_wp_marks Tryz.func31 rfl trivial ?_ rfl
 simp only [Tryz.ntmps31, List.size_toArray, List.length_cons, List.length_nil, Nat.reduceAdd, Nat.reduceSub, Array.replicate_succ, Array.replicate_zero, List.push_toArray, List.append_toArray, List.nil_append, List.cons_append]
 gi_wp2
 obtain ⟨W4, hW4⟩ : ∃ W4, W4 = (((w.alloc (.cells #[.slice none 0 0] 36)).alloc (.cells #[.int .i64 0] 30)).alloc (.cells #[.int .i64 0] 3)).alloc (.cells #[.slice none 0 0] 36) := ⟨_, rfl⟩
 have hz4 : W4.heap.size = w.heap.size + 4 := by rw [hW4]; simp
 have hB4 : Below w.heap.size w W4 := by rw [hW4]; exact ((((Below.refl _ w).alloc (Nat.le_refl _) _).alloc (by simp) _).alloc (by simp; omega) _).alloc (by simp; omega) _
 have b2 : Boxed W4 w.heap.size 36 (.slice none 0 0) := by rw [hW4]; exact (((Boxed.new w 36 (.slice none 0 0)).alloc _).alloc _).alloc _
 have b3 : Boxed W4 (w.heap.size + 1) 30 (.int .i64 0) := by
  rw [hW4]; have := ((Boxed.new (w.alloc (.cells #[.slice none 0 0] 36)) 30 (.int .i64 0)).alloc (.cells #[.int .i64 0] 3)).alloc (.cells #[.slice none 0 0] 36); rwa [World.size_alloc] at this
 have b4 : Boxed W4 (w.heap.size + 1 + 1) 3 (.int .i64 0) := by
  rw [hW4]; have := (Boxed.new ((w.alloc (.cells #[.slice none 0 0] 36)).alloc (.cells #[.int .i64 0] 30)) 3 (.int .i64 0)).alloc (.cells #[.slice none 0 0] 36); rwa [World.size_alloc, World.size_alloc] at this
 have b5 : Boxed W4 (w.heap.size + 1 + 1 + 1) 36 (.slice none 0 0) := by
  rw [hW4]; have := Boxed.new (((w.alloc (.cells #[.slice none 0 0] 36)).alloc (.cells #[.int .i64 0] 30)).alloc (.cells #[.int .i64 0] 3)) 36 (.slice none 0 0); rwa [World.size_alloc, World.size_alloc, World.size_alloc] at this
 rw [← hW4]
 clear hW4
 have HZ4 := Lib.hid hz4
 clear hz4
 refine ⟨trivial, (callsIn_wide.2 (newTables_any W4 (HL.out.below hB4 (Nat.le_refl _)).1 (HL.out.below hB4 (Nat.le_refl _)).2)).mono ?_⟩
 rintro e w5 ⟨rfl, hT5, hB5⟩
 have HT5 := Lib.hid hT5
 have hz5 := hT5.1
 clear hT5
 gi_wp2
 refine ⟨trivial, (callsIn_wide.2 (tokens_any s _ w5)).mono ?_⟩
 rintro e w6 ⟨rfl, rfl⟩
 gi_wp2
 have hn4 : w.heap.size + 4 ≤ W4.heap.size := by have := HZ4.out; omega
 have hB6 : Below W4.heap.size W4 ((w5.alloc (.cells #[.pointer (some ⟨W4.heap.size + 1, 0, none⟩)] 127)).alloc (.cells #[.string s] 9)) := (hB5.alloc hB5.size _).alloc (by have := hB5.size; simp; omega) _
 have hB56 : Below w5.heap.size w5 ((w5.alloc (.cells #[.pointer (some ⟨W4.heap.size + 1, 0, none⟩)] 127)).alloc (.cells #[.string s] 9)) := ((Below.refl _ w5).alloc (Nat.le_refl _) _).alloc (by simp) _
 have hB06 := hB4.trans (hB6.mono (by omega : w.heap.size ≤ W4.heap.size))
 have keep6 : ∀ b t v, b < W4.heap.size → Boxed W4 b t v → Boxed ((w5.alloc (.cells #[.pointer (some ⟨W4.heap.size + 1, 0, none⟩)] 127)).alloc (.cells #[.string s] 9)) b t v := fun b t v hb h => (hB6.block b hb).trans h
 have c1 : ((w5.alloc (.cells #[.pointer (some ⟨W4.heap.size + 1, 0, none⟩)] 127)).alloc (.cells #[.string s] 9)).cell? ⟨w5.heap.size, 0, none⟩ = some (.pointer (some ⟨W4.heap.size + 1, 0, none⟩)) :=
  ((Boxed.new w5 127 (.pointer (some ⟨W4.heap.size + 1, 0, none⟩))).alloc _).cell
 have c2 : ((w5.alloc (.cells #[.pointer (some ⟨W4.heap.size + 1, 0, none⟩)] 127)).alloc (.cells #[.string s] 9)).cell? ⟨w5.heap.size + 1, 0, none⟩ = some (.string s) := by
  have := (Boxed.new (w5.alloc (.cells #[.pointer (some ⟨W4.heap.size + 1, 0, none⟩)] 127)) 9 (.string s)).cell; rwa [World.size_alloc] at this
 have hT6 : TabsM ((w5.alloc (.cells #[.pointer (some ⟨W4.heap.size + 1, 0, none⟩)] 127)).alloc (.cells #[.string s] 9)) (W4.heap.size + 1) W4.heap.size := HT5.out.kept hB56.size (fun k o _ ho => (hB56.block k (Array.getElem?_eq_some_iff.1 ho).1).trans ho)
 have hI6 : LxInv w.heap.size (w5.heap.size + 1 + 1) w [] ((w5.alloc (.cells #[.pointer (some ⟨W4.heap.size + 1, 0, none⟩)] 127)).alloc (.cells #[.string s] 9)) :=
  ⟨⟨_, keep6 _ _ _ (by omega) b5, World.ownsRow_nil _ _ _ _, fun _ => rfl⟩, keep6 _ _ _ (by omega) b2, keep6 _ _ _ (by omega) b3, keep6 _ _ _ (by omega) b4, hB06, by simp [okAll], by simp⟩
 have hs5 := hB5.size
 refine wpIn_rangeFunc_ownH rfl (by omega) (gf := 130) (lb := #[.pointer (some ⟨w5.heap.size, 0, none⟩), .pointer (some ⟨w5.heap.size + 1, 0, none⟩)]) rfl trivial (enters_of Tryz.func130 (by kernel_rfl) rfl)
  (iter_stops (fun k => k < w.heap.size ∨ (W4.heap.size ≤ k ∧ k < w5.heap.size + 1 + 1)) s (W4.heap.size + 1) W4.heap.size w5.heap.size (by omega) _ (by simp) ⟨.inr ⟨by omega, by omega⟩, .inr ⟨by omega, by omega⟩, .inr ⟨by omega, by omega⟩, .inr ⟨by omega, by omega⟩, .inl hE⟩ c1 c2 hT6 4 (by omega))
  (fun h k => h.trans k) (KPb (by intro k hk; simp; omega)) (Below.refl _ _) (fun _ => rfl)
  (LxInv w.heap.size (w5.heap.size + 1 + 1) w) (fun c pre W => c = .ret ∧ ∃ er off, InvX w.heap.size w pre W er off) (LxInv.own (Nat.le_refl _) (by simp; omega)) (fun c => InvX.own (Nat.le_refl _) (by simp; omega) c) hI6
  (fun y a' W => ∃ Bx, TokBox W Bx y ∧ a' = { tmps := #[Value.string s, undef, .pointer (some ⟨w.heap.size, 0, none⟩), .pointer (some ⟨w.heap.size + 1, 0, none⟩), .pointer (some ⟨w.heap.size + 1 + 1, 0, none⟩), .pointer (some ⟨w.heap.size + 1 + 1 + 1, 0, none⟩), .pointer (some ⟨Bx, 0, none⟩), .int .i64 y.err, .string s, .int .i64 s.size, .bool false, .pointer (some ⟨W4.heap.size + 1, 0, none⟩), .string s,
   .func (.func 130) #[] #[.pointer (some ⟨w5.heap.size, 0, none⟩), .pointer (some ⟨w5.heap.size + 1, 0, none⟩)], .agg #[.int .i64 y.tk.kind, .string ⟨y.tk.text.toArray⟩, .int .i64 y.tk.num, .int .i64 y.tk.off], .int .i64 y.err, undef, undef, undef, undef, undef, undef, undef, undef, undef, undef, undef, undef, undef, undef, undef, undef, undef], defers := [] }) ?hAx ?assign ?body ?done ?stop
 case hAx =>
  intro y a' u X Y row hs hg hr
  obtain ⟨Bx, h2, h3⟩ := hs
  refine ⟨Bx, (hg.block Bx h2.lt (fun e' => ?_)).trans h2, h3⟩
  obtain ⟨_, o, ho, hc⟩ := hr Bx e'.symm
  rw [show X.heap[Bx]? = _ from h2] at ho; cases ho; cases hc
 case assign =>
  intro l pre y W K hi hK
  simp only [encY]
  gi_wp2
  exact hK _ _ ((KeepsOthers.alloc _ _).from _) (KP.of_below ((Below.refl _ W).alloc (Nat.le_refl _) _)) (hi.alloc (Nat.le_refl _) _) ⟨W.heap.size, World.alloc_heap_new W _, rfl⟩
 case body =>
  rintro l pre y a' W hl ⟨r, hr⟩ hinv ⟨Bx, hTok, rfl⟩ hlen
  obtain ⟨v, hbox, hrow, hnil⟩ := hinv.list
  have t0 := hTok.cell 0
  have t1 := hTok.cell 1
  have t2 := hTok.cell 2
  have t3 := hTok.cell 3
  simp only [List.getElem?_toArray, List.getElem?_cons_zero, List.getElem?_cons_succ] at t0 t1 t2 t3
  have x2 : Bx ≠ w.heap.size := hTok.ne hinv.r2
  have x3 : Bx ≠ w.heap.size + 1 := hTok.ne hinv.r3
  have x4 : Bx ≠ w.heap.size + 1 + 1 := hTok.ne hinv.r4
  have y2 := hinv.r2.cell
  have y3 := hinv.r3.cell
  have y4 := hinv.r4.cell
  have z2 := hinv.r2.frozen
  have z3 := hinv.r3.frozen
  have z4 := hinv.r4.frozen
  have y5 := hbox.cell
  have z5 := hbox.frozen
  obtain ⟨av, cap, rfl⟩ := row_shape hrow
  have hpl := hinv.ok.1
  by_cases he : y.err = 0
  ·have he1 : ((y.err : Int) == 0) = true := by simp; omega
   have he2 : ((y.err : Int) != 0) = false := by simp; omega
   by_cases hl6 : pre.length = 6000
   ·have hl1 : ((pre.length : Int) == 6000) = true := by simp; omega
    have ST : Hid (Stops (pre ++ [y]) 2 y.tk.off) := Lib.hid ⟨pre, y, rfl, hinv.ok, .inr ⟨he, hl6, rfl⟩, rfl⟩
    clear he hl6
    gi_wp2
    gi_region
    all_goals gi_wp2
    all_goals exact ⟨stop_keeps _ _ _ _ _ _, rfl, 2, y.tk.off, hinv.stop y 2 ST.out⟩
   ·have hl1 : ((pre.length : Int) == 6000) = false := by simp; omega
    have HE := Lib.hid he
    have hlt : pre.length < 6000 := by omega
    clear he hl6
    gi_wp2_with (gi_at_builtin; go_loud (refine wpListIn_append_row _ rfl _ _ 36 rfl (w5.heap.size + 1 + 1) 45 i0 _ 4 40 Tryz.underlying36 hi hz0 hz1 hz2 rfl (by decide) _ pre.length _ rfl (hrow.alloc _) hnil ⟨W.heap.size, 0, none⟩ 1 (tkCells y.tk) rfl rfl ?c1 ?c2 (by unfold maxLen; omega) (by omega) (by have := hinv.room; simp; omega) ?_))
    case c1 => exact tk_new W y.tk
    case c2 => simp [tkCells, Value.oneCell']
    intro v' w1 row hown' hgrow hrow'
    obtain ⟨hv1, hi1, hk1, hk2⟩ := LxInv.append (Nat.le_refl _) (by omega) hinv hbox hlt HE.out hown' hgrow hrow'
    obtain ⟨g', cap', rfl⟩ := ownsRow_succ hown'
    have hc1 := hv1.cell
    have hf1 := hv1.frozen
    gi_wp2
    exact ⟨hk1.from _, hk2 _ (by intro k hk; omega), hi1⟩
  ·have he1 : ((y.err : Int) == 0) = false := by simp; omega
   have he2 : ((y.err : Int) != 0) = true := by simp; omega
   have ST : Hid (Stops (pre ++ [y]) y.err y.tk.off) := Lib.hid ⟨pre, y, rfl, hinv.ok, .inl ⟨he, rfl⟩, rfl⟩
   clear he
   gi_wp2
   gi_region
   all_goals gi_wp2
   all_goals exact ⟨stop_keeps _ _ _ _ _ _, rfl, y.err, y.tk.off, hinv.stop y y.err ST.out⟩
 case done =>
  rintro D ys W hD rfl hinv hK
  obtain ⟨v, hbox, hrow, hnil⟩ := hinv.list
  have y2 := hinv.r2.cell
  have y3 := hinv.r3.cell
  have y4 := hinv.r4.cell
  have z2 := hinv.r2.frozen
  have z3 := hinv.r3.frozen
  have z4 := hinv.r4.frozen
  have y5 := hbox.cell
  obtain ⟨av, cap, rfl⟩ := row_shape hrow
  gi_wp2
  have hK' := (((KeepsOthers.setCell W ⟨w.heap.size, 0, none⟩ (.slice av (Lx.allYields s.data.toList).length cap)).trans (KeepsOthers.setCell _ ⟨w.heap.size + 1, 0, none⟩ (.int .i64 0))).trans (KeepsOthers.setCell _ ⟨w.heap.size + 1 + 1, 0, none⟩ (.int .i64 0))).same D _ hK rfl
  have q2 : Boxed (((W.setCell ⟨w.heap.size, 0, none⟩ (.slice av (Lx.allYields s.data.toList).length cap)).setCell ⟨w.heap.size + 1, 0, none⟩ (.int .i64 0)).setCell ⟨w.heap.size + 1 + 1, 0, none⟩ (.int .i64 0)) w.heap.size 36 (.slice av (Lx.allYields s.data.toList).length cap) := boxed_other _ (boxed_other _ (hinv.r2.set _) (by omega)) (by omega)
  have q3 : Boxed (((W.setCell ⟨w.heap.size, 0, none⟩ (.slice av (Lx.allYields s.data.toList).length cap)).setCell ⟨w.heap.size + 1, 0, none⟩ (.int .i64 0)).setCell ⟨w.heap.size + 1 + 1, 0, none⟩ (.int .i64 0)) (w.heap.size + 1) 30 (.int .i64 0) := boxed_other _ ((boxed_other _ hinv.r3 (by omega)).set _) (by omega)
  have q4 : Boxed (((W.setCell ⟨w.heap.size, 0, none⟩ (.slice av (Lx.allYields s.data.toList).length cap)).setCell ⟨w.heap.size + 1, 0, none⟩ (.int .i64 0)).setCell ⟨w.heap.size + 1 + 1, 0, none⟩ (.int .i64 0)) (w.heap.size + 1 + 1) 3 (.int .i64 0) := (boxed_other _ (boxed_other _ hinv.r4 (by omega)) (by omega)).set _
  have qb := (((hinv.below.setCell (p := ⟨w.heap.size, 0, none⟩) (Nat.le_refl _) (.slice av (Lx.allYields s.data.toList).length cap)).setCell (p := ⟨w.heap.size + 1, 0, none⟩) (by simp) (.int .i64 0)).setCell (p := ⟨w.heap.size + 1 + 1, 0, none⟩) (by simp; omega) (.int .i64 0))
  have qr := ((hrow.kept (grownBy_setCell' W w.heap.size (.slice av (Lx.allYields s.data.toList).length cap)) (.inr (hinv.r2.not_row (by decide) hrow).symm)))
  have qr2 := qr.kept (grownBy_setCell' _ (w.heap.size + 1) (.int .i64 0)) (.inr ((hinv.r3.not_row (by decide) hrow).symm))
  have qr3 := qr2.kept (grownBy_setCell' _ (w.heap.size + 1 + 1) (.int .i64 0)) (.inr ((hinv.r4.not_row (by decide) hrow).symm))
  refine ⟨by simp, .inl ⟨_, _, rfl, run_takeDeferred hK', ?_⟩⟩
  have hg := grownBy_putObj' (((W.setCell ⟨w.heap.size, 0, none⟩ (.slice av (Lx.allYields s.data.toList).length cap)).setCell ⟨w.heap.size + 1, 0, none⟩ (.int .i64 0)).setCell ⟨w.heap.size + 1 + 1, 0, none⟩ (.int .i64 0)) D (.deferred none)
  have hr : ∀ r, some D = some r → ∃ o : Obj, (((W.setCell ⟨w.heap.size, 0, none⟩ (.slice av (Lx.allYields s.data.toList).length cap)).setCell ⟨w.heap.size + 1, 0, none⟩ (.int .i64 0)).setCell ⟨w.heap.size + 1 + 1, 0, none⟩ (.int .i64 0)).heap[r]? = some o ∧ o.isCells = false := fun r e => by cases e; exact ⟨_, hK', rfl⟩
  have k2 := (boxed_keep q2 hg hr).cell
  have k3 := (boxed_keep q3 hg hr).cell
  have k4 := (boxed_keep q4 hg hr).cell
  have kr := row_mono (row_keep qr3 hg hr) (by omega : w.heap.size ≤ w5.heap.size + 1 + 1)
  have kb : Below w.heap.size w _ := qb.grown hg qb.size (fun k e => by cases e; simp at hD; omega)
  have hlex : Lx.lexL s.data.toList = ((Lx.allYields s.data.toList).map (·.tk), 0, 0) := by unfold Lx.lexL; rw [if_neg (by simp; omega), collect_done _ hinv.ok]
  refine ⟨.tuple #[.slice av (Lx.allYields s.data.toList).length cap, .int .i64 0, .int .i64 0], by simp [results, Tryz.results31, go_sem, k2, k3, k4], .slice av (Lx.allYields s.data.toList).length cap, ?_, ?_, ?_, kb⟩
  ·rw [hlex]; rfl
  ·rw [hlex]; simpa using kr
  ·rw [hlex]; intro h0; exact hnil (by simpa using h0)
 case stop =>
  rintro D c pre W hD hpre ⟨rfl, er, off, hx⟩ hK
  gi_wp2
  refine ⟨by simp, .inl ⟨_, _, rfl, run_takeDeferred hK, ?_⟩⟩
  have hg := grownBy_putObj' W D (.deferred none)
  have hr : ∀ r, some D = some r → ∃ o : Obj, W.heap[r]? = some o ∧ o.isCells = false := fun r e => by cases e; exact ⟨_, hK, rfl⟩
  have k2 := (boxed_keep hx.r2 hg hr).cell
  have k3 := (boxed_keep hx.r3 hg hr).cell
  have k4 := (boxed_keep hx.r4 hg hr).cell
  have kb : Below w.heap.size w _ := hx.below.grown hg hx.below.size (fun k e => by cases e; simp at hD; omega)
  have hlex : Lx.lexL s.data.toList = ([], er, off) := by unfold Lx.lexL; rw [if_neg (by simp; omega), collect_stop _ _ _ _ hpre hx.stops]
  refine ⟨.tuple #[.slice none 0 0, .int .i64 er, .int .i64 off], by simp [results, Tryz.results31, go_sem, k2, k3, k4], .slice none 0 0, ?_, ?_, ?_, kb⟩
  ·rw [hlex]; rfl
  ·rw [hlex]; exact World.ownsRow_nil _ _ _ _
  ·rw [hlex]; intro _; rfl
end Go.Proofs.YtpdhiminpdmpiaaGreatDoor
