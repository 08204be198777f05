/-
 Walk of newTables.
-/
import Derived.Test.YtpdhiminpdmpiaaGreatDoorVW5
import Derived.Maps.OwnSet
import Derived.Carry
import Derived.Lib.SlBytesConst
set_option linter.unusedVariables false
set_option linter.unusedSimpArgs false
set_option linter.unusedSectionVars false
set_option linter.unusedVariables false
set_option linter.unusedSimpArgs false
set_option linter.unusedSectionVars false
namespace Go.Proofs.YtpdhiminpdmpiaaGreatDoor
open Go.RowKit Go.Lib
theorem conv_const (w : World) (C : Array Value) (n c N : Nat) (h : w.heap.size = N) :
  (convert 35 35 (.slice (some ⟨N, 0, none⟩) n c)).run Tryz.prog (w.alloc (.cells C 5)) = .ok (.slice (some ⟨N, 0, none⟩) n c) (w.alloc (.cells C 5 (C.size, C.size + 1))) := by
 subst h; exact Lib.run_convert_bytes_const (P := Tryz.prog) w 35 5 C n c Tryz.underlying35 Tryz.underlying5
/-- the block of the tables while it is being filled -/
structure TabF (W : World) (b m : Nat) (f : Nat → Nat) : Prop where
 cls : ∀ i, i < 256 → W.cell? ⟨b, i, none⟩ = some (.int .u8 (f i))
 map : W.cell? ⟨b, 256, none⟩ = some (.map (some m))
 free : ∀ i, W.frozen? ⟨b, i, none⟩ = false
def upd (f : Nat → Nat) (c v : Nat) (i : Nat) : Nat := if i = c then v else f i
def bl (k : Nat) : Nat := [32, 9, 13, 10].getD k 0
def fA (k i : Nat) : Nat := if i ∈ [32, 9, 13, 10].take k then 1 else 0
def rng (f : Nat → Nat) (lo v n i : Nat) : Nat := if lo ≤ i ∧ i < lo + n then v else f i
theorem bl_lt (k : Nat) (h : k < 4) : bl k < 256 := by
 match k, h with
 | 0, _ => decide
 | 1, _ => decide
 | 2, _ => decide
 | 3, _ => decide
theorem fA_step (k : Nat) (h : k < 4) (i : Nat) : upd (fA k) (bl k) 1 i = fA (k + 1) i := by
 unfold upd fA
 match k, h with
 | 0, _ => simp [bl]
 | 1, _ => simp [bl]; split <;> simp_all
 | 2, _ => simp [bl]; split <;> simp_all
 | 3, _ => simp [bl]; split <;> simp_all
theorem rng_step (f : Nat → Nat) (lo v n i : Nat) : upd (rng f lo v n) (lo + n) v i = rng f lo v (n + 1) i := by
 unfold upd rng
 by_cases h : i = lo + n
 ·rw [if_pos h, if_pos (by omega)]
 ·rw [if_neg h]
  by_cases h2 : lo ≤ i ∧ i < lo + n
  ·rw [if_pos h2, if_pos (by omega)]
  ·rw [if_neg h2, if_neg (by omega)]
theorem rng_zero (f : Nat → Nat) (lo v i : Nat) : rng f lo v 0 i = f i := by
 unfold rng; rw [if_neg (by omega)]
theorem TabF.congr {W : World} {b m : Nat} {f g : Nat → Nat} (h : TabF W b m f) (e : ∀ i, f i = g i) : TabF W b m g := ⟨fun i hi => by rw [← e]; exact h.cls i hi, h.map, h.free⟩
theorem TabF.set {W : World} {b m : Nat} {f : Nat → Nat} (h : TabF W b m f) (c v : Nat) (hc : c < 256) : TabF (W.setCell ⟨b, c, none⟩ (.int .u8 v)) b m (upd f c v) := by
 refine ⟨fun i hi => ?_, ?_, fun i => ?_⟩
 ·unfold upd
  by_cases e : i = c
  ·subst e
   rw [if_pos rfl]; exact World.cell?_setCell_same' _ _ _ (by rw [h.cls i hi]; rfl)
  ·rw [if_neg e, World.cell?_setCell_other _ _ _ _ (fun h => by have h' : c = _ := congrArg Addr.off h; dsimp only at h'; omega)]; exact h.cls i hi
 ·rw [World.cell?_setCell_other _ _ _ _ (fun h => by have h' : c = _ := congrArg Addr.off h; dsimp only at h'; omega)]; exact h.map
 ·rw [World.frozen?_setCell]; exact h.free i
def f2 : Nat → Nat → Nat := rng (fA 4) 97 4
def f3 : Nat → Nat → Nat := rng (f2 26) 65 4
def f4 : Nat → Nat → Nat := rng (f3 26) 48 8
theorem f_all (i : Nat) (h : i < 256) : upd (upd (f4 10) 35 2) 95 16 i = Lx.clsN i := by
 have : ∀ i, i < 256 → upd (upd (f4 10) 35 2) 95 16 i = Lx.clsN i := by decide +kernel
 exact this i h
set_option maxRecDepth 100000 in
theorem zc (v : Value) : Tryz.zeroCells192.setIfInBounds 256 v = (List.replicate 256 (Value.int .u8 0) ++ [v]).toArray := by kernel_rfl
theorem zc_low (v : Value) (i : Nat) (h : i < 256) : (Tryz.zeroCells192.setIfInBounds 256 v)[i]? = some (.int .u8 0) := by
 rw [zc, List.getElem?_toArray, List.getElem?_append_left (by rw [List.length_replicate]; exact h), List.getElem?_replicate, if_pos h]
theorem zc_top (v : Value) : (Tryz.zeroCells192.setIfInBounds 256 v)[256]? = some v := by
 rw [zc, List.getElem?_toArray, List.getElem?_append_right (by rw [List.length_replicate]; exact Nat.le_refl _), List.length_replicate]; rfl
theorem tab_start (w : World) (m : Nat) : TabF (w.alloc (.cells (Tryz.zeroCells192.setIfInBounds 256 (.map (some m))) 192)) w.heap.size m (fA 0) :=
 ⟨fun i hi => by rw [World.cell?_alloc_new, zc_low _ _ hi]; simp [fA], by rw [World.cell?_alloc_new, zc_top], fun i => World.frozen?_alloc_at _ _ _ _ rfl⟩
theorem TabF.alloc {W : World} {b m : Nat} {f : Nat → Nat} (h : TabF W b m f) (hb : b < W.heap.size) (o : Obj) : TabF (W.alloc o) b m f :=
 ⟨fun i hi => (World.cell?_alloc_past _ _ _ hb).trans (h.cls i hi), (World.cell?_alloc_past _ _ _ hb).trans h.map, fun i => by rw [World.frozen?_of_block (w := W) (Below.heap_alloc _ _ _ hb)]; exact h.free i⟩
theorem bl_row (w : World) (j : Nat) (h : j < 4) : (w.alloc (.cells #[Value.int IntKind.u8 32, Value.int IntKind.u8 9, Value.int IntKind.u8 13, Value.int IntKind.u8 10] 5 (4, 5))).cell? ⟨w.heap.size, j, none⟩ = some (.int .u8 (bl j)) := by
 rw [World.cell?_alloc_mark]
 match j, h with
 | 0, _ => rfl
 | 1, _ => rfl
 | 2, _ => rfl
 | 3, _ => rfl
def symB (j : Nat) : ByteArray := ⟨(Lx.syms.getD j []).toArray⟩
theorem ascii_const : ∀ b ∈ ([60, 32, 62, 32, 40, 32, 41, 32, 123, 32, 125, 32, 91, 32, 93, 32, 44, 32, 59, 32, 58, 32, 58, 58, 32, 46, 32, 61, 32, 61, 61, 32, 43, 32, 45, 32, 42, 32, 38, 32, 38, 33, 32, 45, 62] : List UInt8), b.toNat < 128 := by decide +kernel
theorem fields_const (w : World) (hS : Lib.TabIs Tryz.prog w "strings.asciiSpace" .u8 Lib.asciiSpaceTab) :
  Calls Tryz.prog 75 #[.string ⟨#[60, 32, 62, 32, 40, 32, 41, 32, 123, 32, 125, 32, 91, 32, 93, 32, 44, 32, 59, 32, 58, 32, 58, 58, 32, 46, 32, 61, 32, 61, 61, 32, 43, 32, 45, 32, 42, 32, 38, 32, 38, 33, 32, 45, 62]⟩] w fun e w' =>
   e = .returned (.slice (some ⟨w.heap.size, 0, none⟩) 21 21) ∧ (∀ j, j < 21 → w'.cell? ⟨w.heap.size, j, none⟩ = some (.string (symB j))) ∧ w'.heap.size = w.heap.size + 1 ∧ Below w.heap.size w w' := by
 refine (Tryz.strings_Fields _ w (by decide) (fun j b h => ascii_const b (List.mem_of_getElem? h)) hS).mono ?_
 rintro e w' ⟨rfl, rfl⟩
 have hf : Lib.fields [60, 32, 62, 32, 40, 32, 41, 32, 123, 32, 125, 32, 91, 32, 93, 32, 44, 32, 59, 32, 58, 32, 58, 58, 32, 46, 32, 61, 32, 61, 61, 32, 43, 32, 45, 32, 42, 32, 38, 32, 38, 33, 32, 45, 62] = Lx.syms := by decide +kernel
 refine ⟨?_, ?_, by simp, (Below.refl _ _).alloc (Nat.le_refl _) _⟩
 ·show Ending.returned (.slice _ (Lib.fields [60, 32, 62, 32, 40, 32, 41, 32, 123, 32, 125, 32, 91, 32, 93, 32, 44, 32, 59, 32, 58, 32, 58, 58, 32, 46, 32, 61, 32, 61, 61, 32, 43, 32, 45, 32, 42, 32, 38, 32, 38, 33, 32, 45, 62]).length (Lib.fields [60, 32, 62, 32, 40, 32, 41, 32, 123, 32, 125, 32, 91, 32, 93, 32, 44, 32, 59, 32, 58, 32, 58, 58, 32, 46, 32, 61, 32, 61, 61, 32, 43, 32, 45, 32, 42, 32, 38, 32, 38, 33, 32, 45, 62]).length) = _
  rw [hf]; rfl
 ·intro j hj
  rw [World.cell?_alloc_new]
  show ((Lib.fields [60, 32, 62, 32, 40, 32, 41, 32, 123, 32, 125, 32, 91, 32, 93, 32, 44, 32, 59, 32, 58, 32, 58, 58, 32, 46, 32, 61, 32, 61, 61, 32, 43, 32, 45, 32, 42, 32, 38, 32, 38, 33, 32, 45, 62]).map fun l => Value.string ⟨l.toArray⟩).toArray[j]? = _
  rw [hf]
  have : ∀ j, j < 21 → (Lx.syms.map fun l => Value.string ⟨l.toArray⟩).toArray[j]? = some (Value.string (symB j)) := by
   intro j hj
   have hl : j < Lx.syms.length := hj
   simp [symB, List.getD_eq_getElem?_getD, List.getElem?_eq_getElem hl]
  exact this j hj
def putAll (L : List (List UInt8)) (D : DataW Unit) : DataW Unit := L.foldl (fun D l => D.put (.string l) (.lit (.bool true))) D
theorem putAll_at (L : List (List UInt8)) (l : List UInt8) (z : DataW Unit) : ∀ (D : DataW Unit), Maps.IsMap D → (putAll L D).atKey (.string l) z = if L.contains l then .lit (.bool true) else D.atKey (.string l) z := by
 induction L with
 | nil => intro D _; rfl
 | cons x r ih =>
  intro D h
  show (putAll r (D.put (.string x) (.lit (.bool true)))).atKey (.string l) z = _
  rw [ih _ (h.put _ _)]
  by_cases hr : l ∈ r
  ·simp [hr]
  ·by_cases hx : l = x
   ·subst hx
    simp [hr, Maps.atKey_put_same h (k := .string l) trivial]
   ·have hne : (Lit.string l) ≠ .string x := by intro h; injection h with h; exact hx h
    rw [Maps.atKey_put_other hne]
    simp [hr, hx]
theorem TabF.keep {W W' : World} {b m B : Nat} {f : Nat → Nat} (h : TabF W b m f) (hb : Below B W W') (hB : b < B) : TabF W' b m f :=
 ⟨fun i hi => (hb.cell (p := ⟨b, i, none⟩) hB).trans (h.cls i hi), (hb.cell (p := ⟨b, 256, none⟩) hB).trans h.map, fun i => (hb.frozen (p := ⟨b, i, none⟩) hB).trans (h.free i)⟩
theorem ownsMap_keep {W W' : World} {k : TypeId} {R : Value → Option (DataW Unit × List MemPlace)} {b n B : Nat} {D : DataW Unit} (h : W.ownsMap Tryz.prog k R b n D) (hb : Below B W W') (hB : b < B) : W'.ownsMap Tryz.prog k R b n D := by
 obtain ⟨es, cl, ho, hr⟩ := h
 exact ⟨es, cl, (hb.block b hB).trans ho, hr⟩
theorem TabF.grown {W W' : World} {b m r : Nat} {f : Nat → Nat} (h : TabF W b m f) (hg : W.grownBy W' (some r)) (hb : b < W.heap.size) (hr : b ≠ r) : TabF W' b m f := by
 have e : W'.heap[b]? = W.heap[b]? := hg.block b hb (fun e => hr (by simpa using e))
 exact ⟨fun i hi => (World.cell?_of_block (w := W) e).trans (h.cls i hi), (World.cell?_of_block (w := W) e).trans h.map, fun i => (World.frozen?_of_block (w := W) e).trans (h.free i)⟩
theorem cell_grown {W W' : World} {b r o : Nat} (hg : W.grownBy W' (some r)) (hb : b < W.heap.size) (hr : b ≠ r) : W'.cell? ⟨b, o, none⟩ = W.cell? ⟨b, o, none⟩ :=
 World.cell?_of_block (w := W) (hg.block b hb (fun e => hr (by simpa using e)))
theorem symB_size (j : Nat) (h : j < 21) : (symB j).size ≤ maxLen := by
 have : ∀ j, j < 21 → (symB j).size ≤ 2 := by decide +kernel
 have := this j h
 unfold maxLen; omega
theorem symB_data (j : Nat) (h : j < 21) : Lx.syms.take (j + 1) = Lx.syms.take j ++ [(symB j).data.toList] := by
 have : ∀ j, j < 21 → Lx.syms.take (j + 1) = Lx.syms.take j ++ [(symB j).data.toList] := by decide +kernel
 exact this j h
theorem putAll_snoc (L : List (List UInt8)) (x : List UInt8) (D : DataW Unit) : putAll (L ++ [x]) D = (putAll L D).put (.string x) (.lit (.bool true)) := by
 simp [putAll, List.foldl_append]
theorem putAll_syms (l : List UInt8) : (putAll (Lx.syms.take 21) (.map [])).atKey (.string l) (.lit (.bool false)) = .lit (.bool (Lx.isSym l)) := by
 rw [show Lx.syms.take 21 = Lx.syms from rfl, putAll_at _ _ _ _ ⟨[], rfl⟩]
 unfold Lx.isSym
 cases h : Lx.syms.contains l <;> rfl
end Go.Proofs.YtpdhiminpdmpiaaGreatDoor
