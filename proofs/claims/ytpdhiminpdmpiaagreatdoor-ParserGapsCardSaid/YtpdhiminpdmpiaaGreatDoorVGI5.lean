/-
 The walk of laid: tokens with gaps before them, in a text of their own.
-/
import Derived.Test.YtpdhiminpdmpiaaGreatDoorVGP0
import Derived.Test.YtpdhiminpdmpiaaGreatDoorVM
import Derived.Test.YtpdhiminpdmpiaaGreatDoorVT
set_option linter.unusedVariables false
set_option linter.unusedSimpArgs false
set_option linter.unusedSectionVars false
set_option linter.unusedVariables false
set_option linter.unusedSimpArgs false
set_option linter.unusedSectionVars false
namespace Go.Proofs.YtpdhiminpdmpiaaGreatDoor
open Go.RowKit Go.Lib
open Lx (Tk)

/-- the gap before the token i -/
def gapAt (gs : List Nat) (i : Nat) : List UInt8 := if gs.length = 0 then [32] else Lx.someGaps.getD (gs.getD (i % gs.length) 0 % 5) []
def gapped (gs : List Nat) : Nat → List Tk → List (List UInt8 × Tk)
  | _, [] => []
  | i, t :: r => (gapAt gs i, t) :: gapped gs (i + 1) r
theorem gapped_len (gs : List Nat) : ∀ (ts : List Tk) (i : Nat), (gapped gs i ts).length = ts.length
  | [], _ => rfl
  | t :: r, i => by rw [gapped, List.length_cons, gapped_len gs r, List.length_cons]
theorem gapped_get (gs : List Nat) : ∀ (ts : List Tk) (k i : Nat) (t : Tk), ts[i]? = some t → (gapped gs k ts)[i]? = some (gapAt gs (k + i), t)
  | [], _, _, _, h => by simp at h
  | u :: r, k, 0, t, h => by simp at h; subst h; simp [gapped]
  | u :: r, k, i + 1, t, h => by
    rw [gapped, List.getElem?_cons_succ, gapped_get gs r (k + 1) i t (by simpa using h)]
    congr 2
    rw [show k + 1 + i = k + (i + 1) from by omega]
theorem gapped_map (gs : List Nat) : ∀ (ts : List Tk) (i : Nat), (gapped gs i ts).map (·.2) = ts
  | [], _ => rfl
  | t :: r, i => by rw [gapped, List.map_cons, gapped_map gs r]
theorem gapAt_mem (gs : List Nat) (i : Nat) : gapAt gs i ∈ Lx.someGaps := by
  unfold gapAt
  split
  · decide
  · have : ∀ k, k < 5 → Lx.someGaps.getD k [] ∈ Lx.someGaps := by decide
    exact this _ (Nat.mod_lt _ (by decide))
theorem gapped_mem (gs : List Nat) : ∀ (ts : List Tk) (i : Nat), ∀ x ∈ gapped gs i ts, x.1 ∈ Lx.someGaps
  | [], _, x, h => by cases h
  | t :: r, i, x, h => by
    rw [gapped] at h
    rcases List.mem_cons.1 h with rfl | h
    · exact gapAt_mem gs i
    · exact gapped_mem gs r _ x h
theorem laidT_snoc (x : List UInt8 × Tk) : ∀ xs : List (List UInt8 × Tk), Lx.laidT (xs ++ [x]) = Lx.laidT xs ++ (x.1 ++ x.2.text)
  | [] => by simp [Lx.laidT]
  | y :: r => by rw [List.cons_append, Lx.laidT, Lx.laidT, laidT_snoc x r]; simp
theorem laidK_snoc (x : List UInt8 × Tk) : ∀ (xs : List (List UInt8 × Tk)) (k : Nat), Lx.laidK k (xs ++ [x]) = Lx.laidK k xs ++ [{ x.2 with off := k + (Lx.laidT xs).length + x.1.length }]
  | [], k => by simp [Lx.laidK, Lx.laidT]
  | y :: r, k => by
    rw [List.cons_append, Lx.laidK, Lx.laidK, laidK_snoc x r, List.cons_append]
    congr 2
    simp only [Lx.laidT, List.length_append]
    congr 2
    omega
/-- the texts of tokens are not longer than the text that they stand in -/
theorem chain_sum (l : List UInt8) : ∀ (ts : List Tk) (k : Nat), Lx.Chain l k ts → (ts.map (fun t => t.text.length)).sum + k ≤ l.length ∨ ts = [] := by
  intro ts
  induction ts with
  | nil => intro k _; exact .inr rfl
  | cons t r ih =>
    intro k h
    obtain ⟨h1, _, _, _, _, h6, h7, h8⟩ := h
    have hg := Lx.posEnd_ge l (k + t.text.length)
    rcases ih _ h8 with h | h
    · left; simp; omega
    · subst h; left; simp; omega
theorem gap_short : ∀ g ∈ Lx.someGaps, g.length ≤ 10 := by decide
theorem laidT_len : ∀ xs : List (List UInt8 × Tk), (∀ x ∈ xs, x.1 ∈ Lx.someGaps) → (Lx.laidT xs).length ≤ 10 * xs.length + (xs.map (fun x => x.2.text.length)).sum
  | [], _ => by simp [Lx.laidT]
  | x :: r, h => by
    have h1 := gap_short _ (h x (by simp))
    have h2 := laidT_len r (fun y hy => h y (by simp [hy]))
    simp only [Lx.laidT, List.length_append, List.length_cons, List.map_cons, List.sum_cons]
    omega
theorem laid_short {l : List UInt8} {ts : List Tk} {a : Nat} (h : Lx.lexL l = (ts, 0, a)) (gs : List Nat) (hl : l.length ≤ 1000) : ts.length ≤ 1000 ∧ (Lx.laidT (gapped gs 0 ts)).length ≤ 11000 := by
  have hc := Lx.lex_count h
  obtain ⟨_, _, _, hch⟩ := Lx.lex_chain l (by rw [h])
  rw [h] at hch
  have h1 := laidT_len (gapped gs 0 ts) (gapped_mem gs ts 0)
  rw [gapped_len] at h1
  have h2 : (gapped gs 0 ts).map (fun x => x.2.text.length) = ts.map (fun t => t.text.length) := by
    have := gapped_map gs ts 0
    conv => rhs; rw [← this]
    rw [List.map_map]; rfl
  rw [h2] at h1
  rcases chain_sum l ts _ hch with h3 | h3
  · omega
  · subst h3; simp [gapped, Lx.laidT]
/-- the bytes of a slice that came in -/
def GapV (w : World) (v : Value) (gs : List Nat) : Prop :=
  (gs = [] ∧ v = .slice none 0 0) ∨ ∃ (a : Addr) (cap : Nat), v = .slice (some a) gs.length cap ∧ gs.length ≤ cap ∧ cap ≤ maxLen ∧ (gs ≠ [] → a.block < w.heap.size) ∧ (∀ i n : Nat, gs[i]? = some n → w.cell? (a.add i) = some (.int .u8 (n : Int))) ∧ ∀ n ∈ gs, n < 256
theorem GapV.shape {w : World} {v : Value} {gs : List Nat} (h : GapV w v gs) : ∃ a cap, v = .slice a gs.length cap ∧ gs.length ≤ cap ∧ cap ≤ maxLen := by
  rcases h with ⟨rfl, rfl⟩ | ⟨a, cap, rfl, h1, h2, _⟩
  · exact ⟨none, 0, rfl, Nat.le_refl _, Nat.zero_le _⟩
  · exact ⟨some a, cap, rfl, h1, h2⟩
def intQ (n : Int) : Q := .int n .nil
theorem info_int : (Tryz.prog.info? 3).map (fun i => (i.zero, i.size, i.bytes)) = some (some (.int .i64 0), 1, 8) := by kernel_rfl
/-- the offsets of tokens laid anew -/
def offsL (xs : List (List UInt8 × Tk)) : List Int := (Lx.laidK 0 xs).map (fun t => (t.off : Int))
theorem offsL_len (xs : List (List UInt8 × Tk)) : (offsL xs).length = xs.length := by simp [offsL, Lx.laidK_len]
theorem offsL_snoc (xs : List (List UInt8 × Tk)) (x : List UInt8 × Tk) : offsL (xs ++ [x]) = offsL xs ++ [(((Lx.laidT xs).length + x.1.length : Nat) : Int)] := by
  unfold offsL
  rw [laidK_snoc, List.map_append]
  simp
/-- what laid comes to -/
def LaidPost (w : World) (xs : List (List UInt8 × Tk)) (e : Ending) (w' : World) : Prop :=
  ∃ (X : ByteArray) (v : Value), X.data.toList = Lx.laidT xs ∧ e = .returned (.tuple #[.string X, v]) ∧ ListAt w' w.heap.size 3 1 (xs.length + 1) (rowsQ intQ (offsL xs ++ [((Lx.laidT xs).length : Int)])) v ∧ Fr [] w w'
theorem add_block (a : Addr) (i : Nat) : (a.add i).block = a.block := by
  unfold Addr.add
  split <;> rfl
def someV : Array Value := #[.string ⟨#[32]⟩, .string ⟨#[10]⟩, .string ⟨#[9, 32, 13]⟩, .string ⟨#[32, 35, 32, 102, 110, 32, 123, 32, 59, 10]⟩, .string ⟨#[35, 10, 10, 32]⟩]
theorem some_cell (k : Nat) (h : k < 5) : someV[k]? = some (.string ⟨(Lx.someGaps.getD k []).toArray⟩) := by
  have : ∀ k, k < 5 → someV[k]? = some (.string ⟨(Lx.someGaps.getD k []).toArray⟩) := by
    intro k hk
    match k, hk with
    | 0, _ => rfl
    | 1, _ => rfl
    | 2, _ => rfl
    | 3, _ => rfl
    | 4, _ => rfl
  exact this k h
theorem fr_lt2 {X : List Nat} {w w' : World} (h : Fr X w w') {k : Nat} (hk : k < w.heap.size) : k < w'.heap.size := Nat.lt_of_lt_of_le hk h.size
theorem take_short (xs : List (List UInt8 × Tk)) (i : Nat) : (Lx.laidT (xs.take i)).length ≤ (Lx.laidT xs).length := by
  have : ∀ (ys zs : List (List UInt8 × Tk)), (Lx.laidT ys).length ≤ (Lx.laidT (ys ++ zs)).length := by
    intro ys zs
    induction ys with
    | nil => simp [Lx.laidT]
    | cons y r ih => simp only [List.cons_append, Lx.laidT, List.length_append]; omega
  have h := this (xs.take i) (xs.drop i)
  rwa [List.take_append_drop] at h
set_option maxRecDepth 100000 in
set_option maxHeartbeats 1600000 in
theorem laid_any (ts : List Tk) (gs : List Nat) (a : Option Addr) (cap Tb : Nat) (gv : Value) (w : World) (hT : TokV w Tb (.slice a ts.length cap) ts) (hn : ts.length ≤ 1000) (hcap : ts.length ≤ cap) (hTb : Tb < w.heap.size) (hg : GapV w gv gs)
    (hs : (Lx.laidT (gapped gs 0 ts)).length ≤ 11000) : Calls Tryz.prog 18 #[.slice a ts.length cap, gv] w (LaidPost w (gapped gs 0 ts)) := by
  obtain ⟨ga, gc, rfl, hgc, hgm⟩ := hg.shape
  have HT := Lib.hid hT
  have HG := Lib.hid hg
  have hgl : gs.length ≤ 9223372036854775807 := by unfold maxLen at hgm; omega
  have hB0 : Hid (Blk (w.alloc (.cells #[.string ⟨#[32]⟩, .string ⟨#[10]⟩, .string ⟨#[9, 32, 13]⟩, .string ⟨#[32, 35, 32, 102, 110, 32, 123, 32, 59, 10]⟩, .string ⟨#[35, 10, 10, 32]⟩] 9)) w.heap.size 9 someV) := Lib.hid (Blk.new _ _ _)
  have hF0 : Hid (Fr [] w (w.alloc (.cells #[.string ⟨#[32]⟩, .string ⟨#[10]⟩, .string ⟨#[9, 32, 13]⟩, .string ⟨#[32, 35, 32, 102, 110, 32, 123, 32, 59, 10]⟩, .string ⟨#[35, 10, 10, 32]⟩] 9))) := Lib.hid ((Fr.refl _ _).alloc _)
  obtain ⟨xs, hxs⟩ : ∃ xs, xs = gapped gs 0 ts := ⟨_, rfl⟩
  have hxl : xs.length = ts.length := by rw [hxs, gapped_len]
  rw [← hxs] at hs ⊢
  have HX := Lib.hid hxs
  clear hT hg hxs
  go_enter Tryz.func18, Tryz.ntmps18
  go_wp2_with fail
  go_loopw [7, 8, 9] (fun v7 v8 v9 wr => ∃ (i : Nat) (X : ByteArray), v7 = .string X ∧ v9 = .int .i64 i ∧ i ≤ ts.length ∧ X.data.toList = Lx.laidT (xs.take i) ∧ ListAt wr (w.heap.size + 1) 3 1 i (rowsQ intQ (offsL (xs.take i))) v8 ∧ Fr [] w wr ∧ Blk wr w.heap.size 9 someV) (fun _ _ v9 _ => ts.length - (RowKit.intOf v9).toNat)
  case atStart => exact ⟨0, ⟨#[]⟩, rfl, rfl, by omega, rfl, .inl ⟨rfl, rfl, rfl⟩, hF0.out, hB0.out⟩
  case round =>
    obtain ⟨i, X, rfl, rfl, hi, hX, hL, hF, hB⟩ := hrel
    obtain ⟨pl, cl, rfl⟩ := hL.shape
    have hsz : X.size = (Lx.laidT (xs.take i)).length := by rw [← hX]; simp
    by_cases hlt : i < ts.length
    · obtain ⟨t, hx⟩ : ∃ x, ts[i]? = some x := ⟨ts[i], List.getElem?_eq_getElem hlt⟩
      have hxx : xs[i]? = some (gapAt gs i, t) := by rw [HX.out, gapped_get gs ts 0 i t hx, Nat.zero_add]
      have hsucc : xs.take (i + 1) = xs.take i ++ [(gapAt gs i, t)] := by rw [List.take_add_one, hxx]; rfl
      have hle := take_short xs (i + 1)
      rw [hsucc, laidT_snoc, List.length_append, List.length_append] at hle
      simp only at hle
      obtain ⟨oo, rfl, _, _, _, hct, _⟩ := (HT.out.same (hF.block Tb hTb (by simp))).at hx
      obtain ⟨tx, htx⟩ : ∃ x : ByteArray, x = ⟨t.text.toArray⟩ := ⟨_, rfl⟩
      have htl : tx.size = t.text.length := by rw [htx]; simp [ByteArray.size]
      have htd : tx.data.toList = t.text := by rw [htx]
      rw [← htx] at hct
      have hTbr := fr_lt2 hF hTb
      have hd : decide ((i : Int) < (ts.length : Int)) = true := by simp; omega
      have hd' : decide (i < ts.length) = true := by simp; omega
      have hdI : (i : Int) < (ts.length : Int) := by omega
      obtain ⟨i0, hinf, iz0, iz1, iz2⟩ := info_parts info_int
      have HINF := Lib.hid hinf
      have HXX := Lib.hid hX
      have HL := Lib.hid hL
      have HF := Lib.hid hF
      have HBK := Lib.hid hB
      have HSU := Lib.hid hsucc
      have hlb := hB.lt
      clear hx hxx hsucc hX hL hF hB hinf htx
      by_cases hz : gs.length = 0
      · have hgap : gapAt gs i = [32] := by unfold gapAt; rw [if_pos hz]
        have hdz : decide ((0 : Int) < (gs.length : Int)) = false := by rw [hz]; rfl
        have hdz' : decide (0 < gs.length) = false := by rw [hz]; rfl
        have hbig : ¬ 9223372036854775807 < X.size + 1 := by rw [hgap] at hle; simp at hle; omega
        have hbig2 : ¬ 9223372036854775807 < X.size + 1 + tx.size := by rw [hgap] at hle; simp at hle; omega
        obtain ⟨g1, g2, g3, g4⟩ := append_ready (R := w.heap.size) (news := [.int .i64 ((X.size : Int) + 1)]) (w2 := wr) (w3 := wr) (qb := intQ ((X.size : Int) + 1)) HL.out (Nat.le_refl _) (Fr.refl _ wr) (by omega) (by omega) (by rw [intQ, rep_int]; exact ⟨_, rfl, by rw [rep_nil]⟩) 3
        have G1 := Lib.hid g1
        have G2 := Lib.hid g2
        have G3 := Lib.hid g3
        have HLE := Lib.hid hle
        have HGP := Lib.hid hgap
        have HSZ := Lib.hid hsz
        clear hgap hz g1 g2 g3 hle hsz
        go_wp2_with (at_builtin; refine wpList_append_list _ rfl _ _ 39 rfl (w.heap.size + 1) 3 i0 _ 1 8 Tryz.underlying39 HINF.out iz0 iz1 iz2 rfl (by decide) (.slice pl i cl) i 1 (rowsQ intQ (offsL (xs.take i))) (intQ ((X.size : Int) + 1)) rfl G1.out ⟨wr.heap.size, 0, none⟩ 1 [.int .i64 ((X.size : Int) + 1)] rfl (by decide) rfl G2.out G3.out (by omega) (by decide) g4 ?_)
        intro v' w4 hL4 hg4
        obtain ⟨p4, c4, rfl⟩ := hL4.shape
        have F4 : Hid (Fr [] w w4) := Lib.hid ((HF.out.alloc _).grown hg4 (fun k hk => by have := (HL.out.own k hk).1; omega))
        have hb4 : w4.heap[Tb]? = wr.heap[Tb]? := (F4.out.block Tb hTb (by simp)).trans (HF.out.block Tb hTb (by simp)).symm
        have hct4 := (World.cell?_of_block (w := wr) hb4).trans hct
        have hTb4 := fr_lt2 F4.out hTb
        have B4 : Hid (Blk w4 w.heap.size 9 someV) := Lib.hid ((HBK.out.alloc _).grown hg4 (fun k e => by have := (HL.out.own k e).1; omega))
        have L4 := Lib.hid hL4
        clear hL4 hg4 hb4 hct
        go_wp2_with fail
        go_roundw
        case rel =>
          refine ⟨i + 1, X ++ ⟨#[32]⟩ ++ tx, rfl, by go_num, by omega, ?_, ?_, F4.out, B4.out⟩
          · rw [HSU.out, laidT_snoc, HGP.out, ← HXX.out, ← htd]; simp
          · have e : rowsQ intQ (offsL (xs.take (i + 1))) = (rowsQ intQ (offsL (xs.take i))).app (intQ ((X.size : Int) + 1)) := by
              rw [HSU.out, offsL_snoc, rowsQ_snoc, HGP.out, ← HSZ.out]
              congr 2
            rw [e]; exact L4.out
        case measure => simp [RowKit.intOf]; omega
      · obtain ⟨A, hA⟩ : ∃ A, ga = some A := by
          rcases HG.out with ⟨h1, _⟩ | ⟨A, c, e, _⟩
          · rw [h1] at hz; exact absurd rfl hz
          · simp only [Value.slice.injEq] at e
            exact ⟨A, e.1⟩
        subst hA
        obtain ⟨k, hk⟩ : ∃ k, k = i % gs.length := ⟨_, rfl⟩
        have hkl : k < gs.length := by rw [hk]; exact Nat.mod_lt _ (by omega)
        obtain ⟨g, hgk⟩ : ∃ x, gs[k]? = some x := ⟨gs[k], List.getElem?_eq_getElem hkl⟩
        have hcg : wr.cell? (A.add k) = some (.int .u8 (g : Int)) ∧ (A.add k).block < wr.heap.size ∧ g < 256 := by
          rcases HG.out with ⟨h1, _⟩ | ⟨A', c, e, _, _, hAl, hc, hw⟩
          · rw [h1] at hz; exact absurd rfl hz
          · simp only [Value.slice.injEq, Option.some.injEq] at e
            obtain ⟨rfl, _, _⟩ := e
            have hAl := hAl (by rintro rfl; exact hz rfl)
            refine ⟨(World.cell?_of_block (w := w) (by rw [add_block]; exact HF.out.block _ hAl (by simp))).trans (hc k g hgk), by rw [add_block]; exact fr_lt2 HF.out hAl, hw g (List.mem_of_getElem? hgk)⟩
        obtain ⟨hcg, hcl, hg256⟩ := hcg
        have hmod : Int.tmod (i : Int) (gs.length : Int) = (k : Int) := by rw [hk]; exact (Int.ofNat_tmod i gs.length).symm
        have hmod2 : (i : Int) % (gs.length : Int) = (k : Int) := by rw [hk]; simp
        obtain ⟨k5, hk5⟩ : ∃ k5, k5 = g % 5 := ⟨_, rfl⟩
        have hk5l : k5 < 5 := by omega
        have hmod5 : Int.tmod (g : Int) 5 = (k5 : Int) := by rw [hk5]; exact (Int.ofNat_tmod g 5).symm
        have hmod6 : (g : Int) % 5 = (k5 : Int) := by rw [hk5]; simp
        obtain ⟨gb, hgb⟩ : ∃ gb : ByteArray, gb = ⟨(Lx.someGaps.getD k5 []).toArray⟩ := ⟨_, rfl⟩
        have hcs := (HBK.out.cell k5).trans (some_cell k5 hk5l)
        rw [← hgb] at hcs
        have hgap : gapAt gs i = gb.data.toList := by
          unfold gapAt
          rw [if_neg hz, hgb, ← hk, hk5]
          simp [List.getD, hgk]
        have hgz : gb.size = (gapAt gs i).length := by rw [hgap]; simp
        have hdz : decide ((0 : Int) < (gs.length : Int)) = true := by simp; omega
        have hdz' : decide (0 < gs.length) = true := by simp; omega
        have hz0 : ((gs.length : Int) == 0) = false := by rw [beq_eq_false_iff_ne]; omega
        have hzne : (gs.length : Int) ≠ 0 := by omega
        have hkI : (k : Int) < (gs.length : Int) := by omega
        have hk5I : (k5 : Int) < 5 := by omega
        have hbig : ¬ 9223372036854775807 < X.size + gb.size := by omega
        have hbig2 : ¬ 9223372036854775807 < X.size + gb.size + tx.size := by omega
        obtain ⟨g1, g2, g3, g4⟩ := append_ready (R := w.heap.size) (news := [.int .i64 ((X.size : Int) + gb.size)]) (w2 := wr) (w3 := wr) (qb := intQ ((X.size : Int) + gb.size)) HL.out (Nat.le_refl _) (Fr.refl _ wr) (by omega) (by omega) (by rw [intQ, rep_int]; exact ⟨_, rfl, by rw [rep_nil]⟩) 3
        have G1 := Lib.hid g1
        have G2 := Lib.hid g2
        have G3 := Lib.hid g3
        have HLE := Lib.hid hle
        have HGP := Lib.hid hgap
        have HSZ := Lib.hid hsz
        have HZ := Lib.hid hz
        clear hgap hz g1 g2 g3 hle hsz hk hk5 hgk hgb hgz
        go_wp2_with (at_builtin; refine wpList_append_list _ rfl _ _ 39 rfl (w.heap.size + 1) 3 i0 _ 1 8 Tryz.underlying39 HINF.out iz0 iz1 iz2 rfl (by decide) (.slice pl i cl) i 1 (rowsQ intQ (offsL (xs.take i))) (intQ ((X.size : Int) + gb.size)) rfl G1.out ⟨wr.heap.size, 0, none⟩ 1 [.int .i64 ((X.size : Int) + gb.size)] rfl (by decide) rfl G2.out G3.out (by omega) (by decide) g4 ?_)
        intro v' w4 hL4 hg4
        obtain ⟨p4, c4, rfl⟩ := hL4.shape
        have F4 : Hid (Fr [] w w4) := Lib.hid ((HF.out.alloc _).grown hg4 (fun k hk => by have := (HL.out.own k hk).1; omega))
        have hb4 : w4.heap[Tb]? = wr.heap[Tb]? := (F4.out.block Tb hTb (by simp)).trans (HF.out.block Tb hTb (by simp)).symm
        have hct4 := (World.cell?_of_block (w := wr) hb4).trans hct
        have hTb4 := fr_lt2 F4.out hTb
        have B4 : Hid (Blk w4 w.heap.size 9 someV) := Lib.hid ((HBK.out.alloc _).grown hg4 (fun k e => by have := (HL.out.own k e).1; omega))
        have L4 := Lib.hid hL4
        clear hL4 hg4 hb4 hct
        go_wp2_with fail
        go_roundw
        case rel =>
          refine ⟨i + 1, X ++ gb ++ tx, rfl, by go_num, by omega, ?_, ?_, F4.out, B4.out⟩
          · rw [HSU.out, laidT_snoc, HGP.out, ← HXX.out, ← htd]; simp
          · have e : rowsQ intQ (offsL (xs.take (i + 1))) = (rowsQ intQ (offsL (xs.take i))).app (intQ ((X.size : Int) + gb.size)) := by
              rw [HSU.out, offsL_snoc, rowsQ_snoc, HGP.out, ← HSZ.out]
              congr 2
            rw [e]; exact L4.out
        case measure => simp [RowKit.intOf]; omega
    · obtain rfl : i = ts.length := by omega
      have hd : decide ((ts.length : Int) < (ts.length : Int)) = false := by simp
      have htake : xs.take ts.length = xs := by rw [← hxl, List.take_length]
      rw [htake] at hX hL hsz
      obtain ⟨i0, hinf, iz0, iz1, iz2⟩ := info_parts info_int
      have HINF := Lib.hid hinf
      have hlb := hB.lt
      obtain ⟨g1, g2, g3, g4⟩ := append_ready (R := w.heap.size) (news := [.int .i64 (X.size : Int)]) (w2 := wr) (w3 := wr) (qb := intQ (X.size : Int)) hL (Nat.le_refl _) (Fr.refl _ wr) (by omega) (by omega) (by rw [intQ, rep_int]; exact ⟨_, rfl, by rw [rep_nil]⟩) 3
      have G1 := Lib.hid g1
      have G2 := Lib.hid g2
      have G3 := Lib.hid g3
      have HL := Lib.hid hL
      have HF := Lib.hid hF
      have HXX := Lib.hid hX
      have HSZ := Lib.hid hsz
      have hbig : X.size ≤ 11000 := by omega
      clear hX hL hF hB hinf g1 g2 g3 hsz htake
      go_wp2_with (at_builtin; refine wpList_append_list _ rfl _ _ 39 rfl (w.heap.size + 1) 3 i0 _ 1 8 Tryz.underlying39 HINF.out iz0 iz1 iz2 rfl (by decide) (.slice pl ts.length cl) ts.length 1 (rowsQ intQ (offsL xs)) (intQ (X.size : Int)) rfl G1.out ⟨wr.heap.size, 0, none⟩ 1 [.int .i64 (X.size : Int)] rfl (by decide) rfl G2.out G3.out (by omega) (by decide) g4 ?_)
      intro v' w4 hL4 hg4
      obtain ⟨p4, c4, rfl⟩ := hL4.shape
      have F4 : Hid (Fr [] w w4) := Lib.hid ((HF.out.alloc _).grown hg4 (fun k hk => by have := (HL.out.own k hk).1; omega))
      have L4 := Lib.hid hL4
      clear hL4 hg4
      go_wp2_with fail
      go_ret2
      refine ⟨X, .slice p4 (ts.length + 1) c4, HXX.out, rfl, ?_, F4.out⟩
      have e : rowsQ intQ (offsL xs ++ [((Lx.laidT xs).length : Int)]) = (rowsQ intQ (offsL xs)).app (intQ (X.size : Int)) := by rw [rowsQ_snoc, HSZ.out]
      rw [e, hxl]
      exact L4.out.mono (by omega)
end Go.Proofs.YtpdhiminpdmpiaaGreatDoor
