/-
  Types as data, and what is done with them, plainly: replacing, comparing, depths, sizes, well-formed types.
-/
import Derived.WalkKit
set_option linter.unusedVariables false
set_option linter.unusedSimpArgs false
namespace Go.Proofs.Ytkhbgdhgjbnhpaa

inductive Ty where
  | mk (kind id : Int) (args : List Ty)
namespace Un
def kd : Ty → Int
  | .mk k _ _ => k
def nm : Ty → Int
  | .mk _ i _ => i
def ar : Ty → List Ty
  | .mk _ _ al => al
/-- an induction on types -/
theorem Ty.ind {P : Ty → Prop} (h : ∀ k i al, (∀ a ∈ al, P a) → P (.mk k i al)) : ∀ t, P t := fun t =>
  Ty.rec (motive_1 := P) (motive_2 := fun l => ∀ a ∈ l, P a) (fun k i al ih => h k i al ih) (fun a ha => by cases ha) (fun a l h1 h2 b hb => by rcases List.mem_cons.1 hb with rfl | hb; exact h1; exact h2 b hb) t
mutual
def size : Ty → Nat
  | .mk _ _ al => sizes al + 1
def sizes : List Ty → Nat
  | [] => 0
  | a :: r => size a + sizes r
end
theorem size_mem {a : Ty} : ∀ {l : List Ty}, a ∈ l → size a ≤ sizes l
  | b :: r, h => by
    rw [sizes]
    rcases List.mem_cons.1 h with rfl | h
    · omega
    · have := size_mem h; omega
theorem size_pos : ∀ t : Ty, 1 ≤ size t
  | .mk _ _ _ => by rw [size]; omega
theorem sizes_len : ∀ l : List Ty, l.length ≤ sizes l
  | [] => by simp
  | a :: r => by rw [sizes, List.length_cons]; have := sizes_len r; have := size_pos a; omega
theorem size_lt {k i : Int} {al : List Ty} {a : Ty} (h : a ∈ al) : size a < size (.mk k i al) := by
  rw [size]; have := size_mem h; omega
theorem len_lt {k i : Int} {al : List Ty} : al.length < size (.mk k i al) := by
  rw [size]; have := sizes_len al; omega
mutual
def mapT (f : Ty → Option Ty) : Ty → Ty
  | .mk k i al => match f (.mk k i al) with
    | some r => r
    | none => .mk k i (mapTs f al)
def mapTs (f : Ty → Option Ty) : List Ty → List Ty
  | [] => []
  | a :: r => mapT f a :: mapTs f r
end
theorem mapTs_eq (f : Ty → Option Ty) : ∀ l, mapTs f l = l.map (mapT f)
  | [] => by rw [mapTs]; rfl
  | a :: r => by rw [mapTs, mapTs_eq f r]; rfl
theorem mapT_mk (f : Ty → Option Ty) (k i : Int) (al : List Ty) : mapT f (.mk k i al) = match f (.mk k i al) with
    | some r => r
    | none => .mk k i (al.map (mapT f)) := by rw [mapT]; simp only [mapTs_eq]
theorem mapT_none : ∀ t, mapT (fun _ => none) t = t := by
  refine Ty.ind fun k i al ih => ?_
  rw [mapT_mk]
  have : al.map (mapT fun _ => none) = al := by
    have := List.map_congr_left (f := mapT fun _ => none) (g := id) (l := al) (fun a ha => ih a ha)
    rw [this, List.map_id]
  rw [this]
/-- a parameter that is replaced -/
def rep (l : List Ty) (t : Ty) : Option Ty := if kd t = 5 ∧ 0 ≤ nm t ∧ nm t < l.length then l[(nm t).toNat]? else none
def subst (l : List Ty) (t : Ty) : Ty := mapT (rep l) t
mutual
def same : Ty → Ty → Bool
  | .mk k i al, .mk k' i' al' => (k == k' && i == i') && sames al al'
def sames : List Ty → List Ty → Bool
  | [], [] => true
  | a :: r, b :: r' => same a b && sames r r'
  | [], _ :: _ => false
  | _ :: _, [] => false
end
theorem sames_len : ∀ {l l' : List Ty}, sames l l' = true → l.length = l'.length
  | [], [], _ => rfl
  | a :: r, b :: r', h => by rw [sames, Bool.and_eq_true] at h; simp [sames_len h.2]
  | [], _ :: _, h => by rw [sames] at h; cases h
  | _ :: _, [], h => by rw [sames] at h; cases h
theorem sames_iff : ∀ {l l' : List Ty}, sames l l' = true ↔ l.length = l'.length ∧ ∀ (i : Nat) (a b : Ty), l[i]? = some a → l'[i]? = some b → same a b = true
  | [], [] => by simp [sames]
  | [], _ :: _ => by simp [sames]
  | _ :: _, [] => by simp [sames]
  | a :: r, b :: r' => by
    rw [sames, Bool.and_eq_true, sames_iff]
    constructor
    · rintro ⟨h1, h2, h3⟩
      refine ⟨by simp [h2], fun i x y hx hy => ?_⟩
      cases i with
      | zero => simp at hx hy; subst hx; subst hy; exact h1
      | succ i => simp at hx hy; exact h3 i x y hx hy
    · rintro ⟨h2, h3⟩
      exact ⟨h3 0 a b rfl rfl, by simpa using h2, fun i x y hx hy => h3 (i + 1) x y (by simpa using hx) (by simpa using hy)⟩
theorem same_eq : ∀ a b : Ty, same a b = true ↔ a = b := by
  refine Ty.ind fun k i al ih => ?_
  rintro ⟨k', i', al'⟩
  rw [same, Bool.and_eq_true, Bool.and_eq_true, beq_iff_eq, beq_iff_eq, sames_iff]
  constructor
  · rintro ⟨⟨rfl, rfl⟩, hl, h⟩
    have : al = al' := by
      apply List.ext_getElem? 
      intro j
      rcases Nat.lt_or_ge j al.length with hj | hj
      · have h1 := List.getElem?_eq_getElem hj
        have h2 := List.getElem?_eq_getElem (l := al') (i := j) (by omega)
        rw [h1, h2, (ih _ (List.getElem_mem hj) _).1 (h j _ _ h1 h2)]
      · rw [List.getElem?_eq_none hj, List.getElem?_eq_none (by omega)]
    rw [this]
  · intro h
    cases h
    refine ⟨⟨rfl, rfl⟩, rfl, fun j a b ha hb => ?_⟩
    rw [ha] at hb
    cases hb
    exact (ih a (List.mem_of_getElem? ha) a).2 rfl
theorem same_refl (a : Ty) : same a a = true := (same_eq a a).2 rfl
theorem sames_eq {l l' : List Ty} : sames l l' = true ↔ l = l' := by
  constructor
  · intro h
    have := (same_eq (.mk 0 0 l) (.mk 0 0 l')).1 (by rw [same, h]; rfl)
    cases this; rfl
  · rintro rfl
    have := same_refl (.mk 0 0 l)
    rw [same, Bool.and_eq_true] at this
    exact this.2
mutual
def depth : Ty → Nat
  | .mk _ _ al => depths al + 1
def depths : List Ty → Nat
  | [] => 0
  | a :: r => max (depth a) (depths r)
end
theorem depth_mem {a : Ty} : ∀ {l : List Ty}, a ∈ l → depth a ≤ depths l
  | b :: r, h => by
    rw [depths]
    rcases List.mem_cons.1 h with rfl | h
    · omega
    · have := depth_mem h; omega
theorem depths_le {n : Nat} : ∀ {l : List Ty}, depths l ≤ n ↔ ∀ a ∈ l, depth a ≤ n
  | [] => by simp [depths]
  | b :: r => by
    rw [depths, Nat.max_le, depths_le]
    simp
theorem depth_size : ∀ t, depth t ≤ size t := by
  refine Ty.ind fun k i al ih => ?_
  rw [depth, size]
  have : depths al ≤ sizes al := depths_le.2 fun a ha => Nat.le_trans (ih a ha) (size_mem ha)
  omega
mutual
def few : Int → Ty → Int
  | m, .mk _ _ al => fews m 1 al
def fews : Int → Int → List Ty → Int
  | _, n, [] => n
  | m, n, a :: r => if n ≤ m then fews m (n + few (m - n) a) r else n
end
theorem few_bounds : ∀ t m, 0 ≤ m → 1 ≤ few m t ∧ few m t ≤ m + 1 ∧ (few m t ≤ m → few m t = size t) := by
  refine Ty.ind fun k i al ih => ?_
  have key : ∀ (l : List Ty), (∀ a ∈ l, ∀ m, 0 ≤ m → 1 ≤ few m a ∧ few m a ≤ m + 1 ∧ (few m a ≤ m → few m a = size a)) → ∀ m n, 0 ≤ m → n ≤ m + 1 → n ≤ fews m n l ∧ fews m n l ≤ m + 1 ∧ (fews m n l ≤ m → fews m n l = n + sizes l) := by
    intro l
    induction l with
    | nil => intro _ m n hm hn; rw [fews, sizes]; exact ⟨by omega, by omega, fun _ => by simp⟩
    | cons a r ihr =>
      intro h m n hm hn
      rw [fews]
      split
      · rename_i hle
        obtain ⟨k1, k2, k3⟩ := h a (by simp) (m - n) (by omega)
        obtain ⟨j1, j2, j3⟩ := ihr (fun b hb => h b (by simp [hb])) m (n + few (m - n) a) hm (by omega)
        refine ⟨by omega, j2, fun hx => ?_⟩
        have := j3 hx
        have e2 := k3 (by have : (0 : Int) ≤ sizes r := by omega
                          omega)
        rw [this, e2, sizes]
        omega
      · exact ⟨by omega, by omega, fun h => by omega⟩
  intro m hm
  rw [few, size]
  obtain ⟨h1, h2, h3⟩ := key al ih m 1 hm (by omega)
  exact ⟨by omega, h2, fun h => by rw [h3 h]; omega⟩
/-- how much is counted is at most what there is -/
theorem few_size (t : Ty) (m : Int) (hm : 0 ≤ m) (h : few m t ≤ m) : (size t : Int) ≤ m := by
  have := (few_bounds t m hm).2.2 h; omega
def small (l : List Ty) : Bool := l.all (fun t => decide (few 30 t ≤ 30)) && decide (l.length ≤ 8)
theorem small_size {l : List Ty} (h : small l = true) : (∀ t ∈ l, size t ≤ 30) ∧ l.length ≤ 8 := by
  simp only [small, Bool.and_eq_true, List.all_eq_true, decide_eq_true_eq] at h
  exact ⟨fun t ht => by have := few_size t 30 (by omega) (h.1 t ht); omega, h.2⟩
/-- the Kinds of stored types -/
def stored (t : Ty) : Bool := decide (1 ≤ kd t) && decide (kd t ≤ 5)
/-- what can stand in a type of a Kind -/
def fits (k : Int) (a : Ty) : Bool := stored a || (k == 7 && kd a == 6)
mutual
def acc (ds : List Int) (p : Int) : Int → Ty → Bool
  | n, .mk k i al =>
    if n = 0 then false
    else if k = 1 ∨ k = 6 then decide (i = 0) && al.isEmpty
    else if k = 5 then (decide (0 ≤ i) && decide (i < p)) && al.isEmpty
    else if k = 2 then (decide (0 ≤ i) && decide (i < ds.length)) && (decide ((al.length : Int) = ds.getD i.toNat 0) && accs ds p k n al)
    else if k = 3 ∨ k = 4 ∨ k = 7 ∨ k = 8 then decide (i = 0) && (decide ((al.length : Int) = 1) && accs ds p k n al)
    else false
def accs (ds : List Int) (p : Int) : Int → Int → List Ty → Bool
  | _, _, [] => true
  | k, n, a :: r => (fits k a && acc ds p (n - 1) a) && accs ds p k n r
end
theorem accs_all (ds : List Int) (p k n : Int) : ∀ l, accs ds p k n l = l.all (fun a => fits k a && acc ds p (n - 1) a)
  | [] => by rw [accs]; rfl
  | a :: r => by rw [accs, accs_all ds p k n r]; rfl
/-- E5 -/
def valid (ds : List Int) (p : Int) (t : Ty) : Bool := (decide (0 ≤ p) && decide (p ≤ 4)) && acc ds p 8 t

/-! what is well-formed -/
theorem acc_level {ds : List Int} {p : Int} : ∀ (t : Ty) {n : Int}, acc ds p n t = true → ∀ m : Nat, acc ds p m t = decide (depth t ≤ m) := by
  refine Ty.ind fun k i al ih => ?_
  intro n h m
  have hd : 1 ≤ depth (.mk k i al) := by rw [depth]; omega
  rw [acc] at h ⊢
  by_cases hn : n = 0
  · rw [if_pos hn] at h; cases h
  rw [if_neg hn] at h
  by_cases hm : m = 0
  · subst hm
    rw [if_pos (by rfl)]
    simp; omega
  rw [if_neg (by omega)]
  have kids : accs ds p k n al = true → accs ds p k m al = decide (depth (.mk k i al) ≤ m) := by
    intro hk
    rw [accs_all, List.all_eq_true] at hk
    have e : accs ds p k m al = al.all (fun a => decide (depth a ≤ m - 1)) := by
      rw [accs_all, Bool.eq_iff_iff, List.all_eq_true, List.all_eq_true]
      refine ⟨fun h a ha => ?_, fun h a ha => ?_⟩
      all_goals
        have h1 := hk a ha
        rw [Bool.and_eq_true] at h1
        have h2 := ih a ha h1.2 (m - 1)
        have h3 := h a ha
        rw [show ((m - 1 : Nat) : Int) = (m : Int) - 1 by omega] at h2
      · rw [Bool.and_eq_true] at h3
        rw [h2] at h3
        exact h3.2
      · rw [Bool.and_eq_true, h2]
        exact ⟨h1.1, h3⟩
    rw [e, Bool.eq_iff_iff, List.all_eq_true, decide_eq_true_eq, depth]
    constructor
    · intro h
      have : depths al ≤ m - 1 := depths_le.2 fun a ha => by have := h a ha; simpa using this
      omega
    · intro h a ha
      have := depth_mem ha
      simp; omega
  have leaf : al.isEmpty = true → decide (depth (.mk k i al) ≤ m) = true := by
    intro he
    rw [List.isEmpty_iff] at he
    subst he
    rw [depth, depths]
    simp; omega
  split at h
  · rename_i hk
    rw [if_pos hk]
    rw [h]
    rw [Bool.and_eq_true] at h
    exact (leaf h.2).symm
  · rename_i hk
    rw [if_neg hk]
    split at h
    · rename_i hk2
      rw [if_pos hk2, h]
      rw [Bool.and_eq_true] at h
      exact (leaf h.2).symm
    · rename_i hk2
      rw [if_neg hk2]
      split at h
      · rename_i hk3
        rw [if_pos hk3]
        simp only [Bool.and_eq_true] at h
        obtain ⟨⟨h1, h0⟩, h2, h3⟩ := h
        rw [h1, h0, h2, kids h3]; rfl
      · rename_i hk3
        rw [if_neg hk3]
        split at h
        · rename_i hk4
          rw [if_pos hk4]
          simp only [Bool.and_eq_true] at h
          obtain ⟨h1, h2, h3⟩ := h
          rw [h1, h2, kids h3]; rfl
        · cases h
/-- the parts of a well-formed type -/
theorem acc_kids {ds : List Int} {p n k i : Int} {al : List Ty} (h : acc ds p n (.mk k i al) = true) : (al = [] ∧ (k = 5 → 0 ≤ i ∧ i < p)) ∨ (k ≠ 5 ∧ ∀ a ∈ al, fits k a = true ∧ acc ds p (n - 1) a = true) := by
  rw [acc] at h
  split at h
  · cases h
  split at h
  · rename_i hk
    rw [Bool.and_eq_true, List.isEmpty_iff] at h
    exact .inl ⟨h.2, fun e => by omega⟩
  split at h
  · rw [Bool.and_eq_true, Bool.and_eq_true, List.isEmpty_iff, decide_eq_true_eq, decide_eq_true_eq] at h
    exact .inl ⟨h.2, fun _ => h.1⟩
  rename_i hk1 hk2
  have kids : accs ds p k n al = true → ∀ a ∈ al, fits k a = true ∧ acc ds p (n - 1) a = true := fun h a ha => by
    rw [accs_all, List.all_eq_true] at h
    have := h a ha
    rwa [Bool.and_eq_true] at this
  split at h
  · simp only [Bool.and_eq_true] at h
    exact .inr ⟨hk2, kids h.2.2⟩
  split at h
  · simp only [Bool.and_eq_true] at h
    exact .inr ⟨hk2, kids h.2.2⟩
  · cases h
theorem subst_mk (l : List Ty) (k i : Int) (al : List Ty) : subst l (.mk k i al) = match rep l (.mk k i al) with
    | some r => r
    | none => .mk k i (al.map (subst l)) := by unfold subst; rw [mapT_mk]
theorem rep_no {l : List Ty} {k i : Int} {al : List Ty} (h : k ≠ 5) : rep l (.mk k i al) = none := by
  unfold rep; rw [if_neg]; intro h'; exact h h'.1
theorem rep_yes {l : List Ty} {i : Int} {al : List Ty} (h0 : 0 ≤ i) (h1 : i < l.length) : rep l (.mk 5 i al) = some (l[i.toNat]'(by omega)) := by
  unfold rep
  rw [if_pos ⟨rfl, h0, h1⟩]
  exact List.getElem?_eq_getElem _
/-- parameters replaced by themselves -/
def ps : List Ty := [.mk 5 0 [], .mk 5 1 [], .mk 5 2 [], .mk 5 3 []]
theorem subst_self {ds : List Int} : ∀ (t : Ty) {n : Int}, acc ds 4 n t = true → subst ps t = t := by
  refine Ty.ind fun k i al ih => ?_
  intro n h
  rw [subst_mk]
  rcases acc_kids h with ⟨rfl, hp⟩ | ⟨hk, hkids⟩
  · by_cases hk : k = 5
    · subst hk
      obtain ⟨h0, h1⟩ := hp rfl
      rw [rep_yes h0 (by simp [ps]; omega)]
      have : i = 0 ∨ i = 1 ∨ i = 2 ∨ i = 3 := by omega
      rcases this with rfl | rfl | rfl | rfl <;> rfl
    · rw [rep_no hk]; rfl
  · rw [rep_no hk]
    have : al.map (subst ps) = al := by
      have := List.map_congr_left (f := subst ps) (g := id) (l := al) (fun a ha => ih a ha (hkids a ha).2)
      rw [this, List.map_id]
    rw [this]
/-- replacing twice -/
theorem subst_twice {ds : List Int} {one two : List Ty} : ∀ (t : Ty) {n : Int}, acc ds one.length n t = true → subst two (subst one t) = subst (one.map (subst two)) t := by
  refine Ty.ind fun k i al ih => ?_
  intro n h
  rw [subst_mk one, subst_mk (one.map (subst two))]
  rcases acc_kids h with ⟨rfl, hp⟩ | ⟨hk, hkids⟩
  · by_cases hk : k = 5
    · subst hk
      obtain ⟨h0, h1⟩ := hp rfl
      rw [rep_yes h0 h1, rep_yes h0 (by simpa using h1)]
      simp
    · rw [rep_no hk, rep_no hk]
      simp only [List.map_nil]
      rw [subst_mk, rep_no hk]; rfl
  · rw [rep_no hk, rep_no hk]
    simp only
    rw [subst_mk, rep_no hk]
    simp only [List.map_map]
    congr 1
    exact List.map_congr_left fun a ha => ih a ha (hkids a ha).2
theorem kd_subst {one : List Ty} {k i : Int} {al : List Ty} (hk : k ≠ 5) : kd (subst one (.mk k i al)) = k := by
  rw [subst_mk, rep_no hk]; rfl
/-- replaced by well-formed stored types, a type is well-formed if its depth allows it -/
theorem subst_acc {ds : List Int} {one : List Ty} {p : Int} (hone : ∀ u ∈ one, stored u = true ∧ acc ds p 8 u = true) : ∀ (t : Ty) {n : Int}, acc ds one.length n t = true → ∀ m : Nat, acc ds p m (subst one t) = decide (depth (subst one t) ≤ m) := by
  refine Ty.ind fun k i al ih => ?_
  intro n h m
  have hA := acc_kids h
  by_cases hk : k = 5
  · subst hk
    rcases hA with ⟨rfl, hp⟩ | ⟨hk, _⟩
    · obtain ⟨h0, h1⟩ := hp rfl
      rw [subst_mk, rep_yes h0 h1]
      exact acc_level _ (hone _ (List.getElem_mem _)).2 m
    · exact absurd rfl hk
  have e : subst one (.mk k i al) = .mk k i (al.map (subst one)) := by rw [subst_mk, rep_no hk]
  have hfit : ∀ a, fits k a = true → fits k (subst one a) = true := by
    intro a ha
    obtain ⟨k', i', al'⟩ := a
    by_cases hk' : k' = 5
    · subst hk'
      rw [subst_mk]
      cases hr : rep one (.mk 5 i' al') with
      | none => simp [fits, stored, kd]
      | some r =>
        unfold rep at hr
        split at hr
        · have := (hone r (List.mem_of_getElem? hr)).1
          simp [fits, this]
        · cases hr
    · have hkk := kd_subst (one := one) (i := i') (al := al') hk'
      have e1 : fits k (subst one (.mk k' i' al')) = fits k (.mk k' i' al') := by unfold fits stored; rw [hkk]; rfl
      rw [e1]; exact ha
  have hne : m = 0 ∨ m ≠ 0 := by omega
  have hd : 1 ≤ depth (subst one (.mk k i al)) := by rw [e, depth]; omega
  rcases hne with rfl | hm
  · rw [e, acc, if_pos (by rfl)]
    rw [← e]
    simp; omega
  have kids : accs ds one.length k n al = true → accs ds p k m (al.map (subst one)) = decide (depth (subst one (.mk k i al)) ≤ m) := by
    intro hks
    rw [accs_all, List.all_eq_true] at hks
    rw [e, Bool.eq_iff_iff, accs_all, List.all_eq_true, decide_eq_true_eq, depth]
    constructor
    · intro h
      have : depths (al.map (subst one)) ≤ m - 1 := depths_le.2 fun a ha => by
        have h1 := h a ha
        obtain ⟨b, hb, rfl⟩ := List.mem_map.1 ha
        have h2 := hks b hb
        rw [Bool.and_eq_true] at h1 h2
        have h3 := ih b hb h2.2 (m - 1)
        rw [show ((m - 1 : Nat) : Int) = (m : Int) - 1 by omega, h1.2] at h3
        simpa using h3.symm
      omega
    · intro h a ha
      have hdm := depth_mem ha
      obtain ⟨b, hb, rfl⟩ := List.mem_map.1 ha
      have h2 := hks b hb
      rw [Bool.and_eq_true] at h2
      have h3 := ih b hb h2.2 (m - 1)
      rw [show ((m - 1 : Nat) : Int) = (m : Int) - 1 by omega] at h3
      rw [Bool.and_eq_true, h3]
      exact ⟨hfit b h2.1, by simp; omega⟩
  have leaf : al.isEmpty = true → decide (depth (subst one (.mk k i al)) ≤ m) = true := by
    intro he
    rw [List.isEmpty_iff] at he
    subst he
    rw [e, depth, List.map_nil, depths]
    simp; omega
  rw [e] at kids leaf ⊢
  rw [acc] at h ⊢
  have hn : n ≠ 0 := by intro hn; rw [if_pos hn] at h; cases h
  rw [if_neg hn] at h
  rw [if_neg (by omega)]
  split at h
  · rename_i hk1
    rw [if_pos hk1]
    rw [Bool.and_eq_true] at h
    rw [leaf h.2, h.1]
    rw [List.isEmpty_iff] at h
    rw [h.2]; rfl
  · rename_i hk1
    rw [if_neg hk1, if_neg hk]
    split at h
    · rename_i hk3
      rw [if_pos hk3]
      simp only [Bool.and_eq_true] at h
      obtain ⟨⟨h1, h0⟩, h2, h3⟩ := h
      rw [h1, h0, List.length_map, h2, kids h3]; rfl
    · rename_i hk3
      rw [if_neg hk3]
      split at h
      · rename_i hk4
        rw [if_pos hk4]
        simp only [Bool.and_eq_true] at h
        obtain ⟨h1, h2, h3⟩ := h
        rw [h1, List.length_map, h2, kids h3]; rfl
      · cases h
/-- sizes of what is replaced -/
theorem size_subst {l : List Ty} {c : Nat} (hl : ∀ u ∈ l, size u ≤ c) (hc : 1 ≤ c) : ∀ t, size (subst l t) ≤ size t * c := by
  refine Ty.ind fun k i al ih => ?_
  rw [subst_mk]
  cases hr : rep l (.mk k i al) with
  | some r =>
    unfold rep at hr
    split at hr
    · have h1 := hl r (List.mem_of_getElem? hr)
      have h2 := size_pos (.mk k i al)
      calc size r ≤ 1 * c := by omega
        _ ≤ _ := Nat.mul_le_mul_right _ h2
    · cases hr
  | none =>
    simp only
    rw [size, size]
    have : sizes (al.map (subst l)) ≤ sizes al * c := by
      clear hr
      induction al with
      | nil => simp [sizes]
      | cons a r ihr =>
        rw [List.map_cons, sizes, sizes, Nat.add_mul]
        have h1 := ih a (by simp)
        have h2 := ihr (fun b hb => ih b (by simp [hb]))
        omega
    rw [Nat.add_mul]
    omega
end Un
end Go.Proofs.Ytkhbgdhgjbnhpaa
