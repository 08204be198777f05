/-
  The offsets of what is read are offsets of tokens.
-/
import Derived.Test.YtefihbhcdocgfaaGreatDoorZGN4
import Derived.Test.YtefihbhcdocgfaaGreatDoorZGP0
set_option linter.unusedVariables false
set_option linter.unusedSimpArgs false
set_option linter.unusedSectionVars false

namespace Go.Proofs.YtefihbhcdocgfaaGreatDoor
open Lx (Tk)
open Px (Txt TyE VarD DataD TraitD BoundD ImplD ArgD ExprD StmtD ArmD FuncD ModD)

theorem bind_ok {α β : Type} {p : Px.Rd α} {f : α → Px.Rd β} {ts r : List Tk} {b : β} (h : (p >>= f) ts = .ok b r) : ∃ a s, p ts = .ok a s ∧ f a s = .ok b r := by
  change Px.Rd.bind p f ts = _ at h
  unfold Px.Rd.bind at h
  cases hq : p ts with
  | ok a s => rw [hq] at h; exact ⟨a, s, rfl, h⟩
  | bad s => rw [hq] at h; cases h
theorem Suf.sub {α : Type} {p : Px.Rd α} (h : Suf p) {ts s : List Tk} {a : α} (e : p ts = .ok a s) : ∀ t ∈ s, t ∈ ts := by
  obtain ⟨u, hu⟩ := h ts
  rw [e] at hu
  have hu' : ts = u ++ s := hu
  intro t ht
  rw [hu']; exact List.mem_append_right _ ht
theorem pure_ok {α : Type} {a b : α} {ts r : List Tk} (h : (Pure.pure a : Px.Rd α) ts = .ok b r) : a = b ∧ ts = r := by
  change Px.Res.ok a ts = .ok b r at h
  cases h; exact ⟨rfl, rfl⟩
/-- what is handed back, whatever is read -/
def Ret {α : Type} (P : α → Prop) (p : Px.Rd α) : Prop := ∀ ts a r, p ts = .ok a r → P a
theorem Ret.bind {α β : Type} {P : β → Prop} {p : Px.Rd α} {f : α → Px.Rd β} (hf : ∀ a, Ret P (f a)) : Ret P (p >>= f) := by
  intro ts b r h
  obtain ⟨a, s, _, h2⟩ := bind_ok h
  exact hf a s b r h2
theorem Ret.pure {α : Type} {P : α → Prop} {a : α} (h : P a) : Ret P (Pure.pure a : Px.Rd α) := by
  intro ts b r hb
  rw [← (pure_ok hb).1]; exact h
theorem Ret.ite {α : Type} {P : α → Prop} {c : Prop} [Decidable c] {p q : Px.Rd α} (h : Ret P p) (h' : Ret P q) : Ret P (if c then p else q) := by
  split
  · exact h
  · exact h'
theorem Ret.refuse {α : Type} {P : α → Prop} : Ret P (Px.refuse : Px.Rd α) := fun _ _ _ h => by cases h
def soff : StmtD → Nat
  | .mk _ _ _ _ _ _ _ _ _ o => o
theorem ret_setS (sz n o : Nat) : Ret (fun s => soff s = o) (Px.setS sz n o) := by
  unfold Px.setS
  repeat' (first | exact Ret.pure rfl | apply Ret.bind | intro _)
theorem ret_afterForm (sz n k o : Nat) (S : Px.Rd StmtD) : Ret (fun s => soff s = o) (Px.afterForm sz n S k o) := by
  unfold Px.afterForm Px.letS Px.storeS Px.choiceS Px.loopS Px.matchS Px.bareS Px.sendS Px.spawnS Px.localS Px.namedS
  repeat' (first | exact Ret.pure rfl | apply Ret.ite | apply Ret.bind | intro _)
theorem offset_head (sz : Nat) {ts s : List Tk} {o : Nat} (h : Px.offsetR sz ts = .ok o s) : s = ts ∧ ∀ t r, ts = t :: r → o = t.off := by
  cases ts with
  | nil => cases h; exact ⟨rfl, fun t r e => by cases e⟩
  | cons t r => cases h; exact ⟨rfl, fun t' r' e => by cases e; rfl⟩
theorem stmt_at {sz n m : Nat} {ts r : List Tk} {s : StmtD} (h : Px.stmtF sz n m ts = .ok s r) : ∃ t rest, ts = t :: rest ∧ soff s = t.off := by
  cases m with
  | zero => cases h
  | succ m =>
    have hs := strict_stmtF sz n (m + 1) _ _ _ h
    cases ts with
    | nil => simp at hs
    | cons t rest =>
      refine ⟨t, rest, rfl, ?_⟩
      unfold Px.stmtF at h
      obtain ⟨o, s1, h1, h⟩ := bind_ok h
      obtain ⟨_, ho⟩ := offset_head sz h1
      rw [← ho t rest rfl]
      obtain ⟨w, s2, _, h⟩ := bind_ok h
      split at h
      · exact ret_setS sz n o _ _ _ h
      · obtain ⟨_, s3, _, h⟩ := bind_ok h
        exact ret_afterForm sz n _ o _ _ _ _ h
theorem name_head {ts s : List Tk} {x : Txt} (h : Px.name ts = .ok x s) : ∃ t, ts = t :: s ∧ x = t.text := by
  cases ts with
  | nil => cases h
  | cons t r =>
    simp only [Px.name] at h
    split at h
    · cases h; exact ⟨t, rfl, rfl⟩
    · cases h
theorem variant_at {sz n : Nat} {ts r : List Tk} {v : VarD} (h : Px.variant sz n ts = .ok v r) : ∃ t ∈ ts, t.off = v.off ∧ t.text = v.name := by
  unfold Px.variant at h
  obtain ⟨o, s1, h1, h⟩ := bind_ok h
  obtain ⟨e1, ho⟩ := offset_head sz h1
  obtain ⟨x, s2, h2, h⟩ := bind_ok h
  rw [e1] at h2
  obtain ⟨t, e2, hx⟩ := name_head h2
  obtain ⟨f, s3, _, h⟩ := bind_ok h
  obtain ⟨e3, _⟩ := pure_ok h
  refine ⟨t, by rw [e2]; simp, ?_, ?_⟩
  · rw [← e3]; exact (ho t s2 e2).symm
  · rw [← e3]; exact hx.symm
theorem arg_at {sz n : Nat} {ts r : List Tk} {v : ArgD} (h : Px.arg sz n ts = .ok v r) : ∃ t ∈ ts, t.off = v.off ∧ t.text = v.name := by
  unfold Px.arg at h
  obtain ⟨o, s1, h1, h⟩ := bind_ok h
  obtain ⟨e1, ho⟩ := offset_head sz h1
  obtain ⟨x, s2, h2, h⟩ := bind_ok h
  rw [e1] at h2
  obtain ⟨t, e2, hx⟩ := name_head h2
  obtain ⟨_, s3, _, h⟩ := bind_ok h
  obtain ⟨_, s4, _, h⟩ := bind_ok h
  obtain ⟨e3, _⟩ := pure_ok h
  refine ⟨t, by rw [e2]; simp, ?_, ?_⟩
  · rw [← e3]; exact (ho t s2 e2).symm
  · rw [← e3]; exact hx.symm
section
variable {α : Type} {p : Px.Rd α} {R : Tk → α → Prop} (hs : Suf p) (hp : ∀ ts a r, p ts = .ok a r → ∃ t ∈ ts, R t a)
include hs hp in
theorem listT_all : ∀ (n : Nat) (acc : List α) (S ts : List Tk), (∀ t ∈ ts, t ∈ S) → (∀ a ∈ acc, ∃ t ∈ S, R t a) → ∀ l r, Px.listT p n acc ts = .ok l r → ∀ a ∈ l, ∃ t ∈ S, R t a := by
  intro n
  induction n with
  | zero => intro acc S ts _ _ l r h; cases h
  | succ n ih =>
    intro acc S ts h1 h2 l r h
    rw [Px.listT] at h
    obtain ⟨b, s, hb, h⟩ := bind_ok h
    have hsub := (LL.accept [[44]]).s1.sub hb
    split at h
    · obtain ⟨a, s2, ha, h⟩ := bind_ok h
      have hsub2 := hs.sub ha
      refine ih (acc ++ [a]) S s2 (fun t ht => h1 t (hsub t (hsub2 t ht))) ?_ l r h
      intro x hx
      rcases List.mem_append.1 hx with hx | hx
      · exact h2 x hx
      · simp at hx; subst hx
        obtain ⟨t, ht, hr⟩ := hp _ _ _ ha
        exact ⟨t, h1 t (hsub t ht), hr⟩
    · obtain ⟨e, _⟩ := pure_ok h
      rw [← e]; exact h2
include hs hp in
theorem list_all {ts r : List Tk} {l : List α} (h : Px.list p ts = .ok l r) : ∀ a ∈ l, ∃ t ∈ ts, R t a := by
  change Px.Rd.bind p (fun a => Px.listT p (ts.length + 1) [a]) ts = _ at h
  unfold Px.Rd.bind at h
  cases hq : p ts with
  | bad s => rw [hq] at h; cases h
  | ok a s =>
    rw [hq] at h
    refine listT_all hs hp _ [a] ts s (hs.sub hq) ?_ l r h
    intro x hx
    simp at hx; subst hx
    exact hp _ _ _ hq
include hs hp in
theorem pos_all {o cl : Txt} {ts r : List Tk} {l : List α} (h : Px.possiblyEmptyList o p cl ts = .ok l r) : ∀ a ∈ l, ∃ t ∈ ts, R t a := by
  unfold Px.possiblyEmptyList at h
  obtain ⟨_, s1, h1, h⟩ := bind_ok h
  obtain ⟨b, s2, h2, h⟩ := bind_ok h
  split at h
  · obtain ⟨e, _⟩ := pure_ok h
    rw [← e]; intro a ha; cases ha
  · obtain ⟨l', s3, h3, h⟩ := bind_ok h
    obtain ⟨_, s4, _, h⟩ := bind_ok h
    obtain ⟨e, _⟩ := pure_ok h
    rw [← e]
    intro a ha
    obtain ⟨t, ht, hr⟩ := list_all hs hp h3 a ha
    exact ⟨t, (LL.expect [o]).s1.sub h1 t ((LL.accept [cl]).s1.sub h2 t ht), hr⟩
end
/-- offsets that increase, from a bound on -/
def Inc : Nat → List StmtD → Prop
  | _, [] => True
  | lo, s :: r => lo < soff s ∧ Inc (soff s) r
abbrev Sorted (ts : List Tk) : Prop := ts.Pairwise (fun a b => a.off < b.off)
theorem sorted_suf {u s : List Tk} (h : Sorted (u ++ s)) : Sorted s := (List.pairwise_append.1 h).2.1
theorem until_inc {sz n m : Nat} : ∀ (k : Nat) (acc : List StmtD) (ts : List Tk), Sorted ts → ∀ l r, Px.untilT (Px.stmtF sz n m) k acc ts = .ok l r →
    ∃ l', l = acc ++ l' ∧ (∀ lo, (∀ t ∈ ts, lo < t.off) → Inc lo l') ∧ (∀ s ∈ l', ∃ t ∈ ts, t.off = soff s) := by
  intro k
  induction k with
  | zero => intro acc ts _ l r h; cases h
  | succ k ih =>
    intro acc ts hso l r h
    rw [Px.untilT] at h
    obtain ⟨b, s, hb, h⟩ := bind_ok h
    obtain ⟨u0, hu0⟩ := (LL.accept [[125]]).s1 ts
    rw [hb] at hu0
    have hu0' : ts = u0 ++ s := hu0
    split at h
    · obtain ⟨e, _⟩ := pure_ok h
      exact ⟨[], by simp [← e], fun _ _ => trivial, fun s hs => by cases hs⟩
    · obtain ⟨a, s2, ha, h⟩ := bind_ok h
      obtain ⟨t, rest, e1, e2⟩ := stmt_at ha
      obtain ⟨u, hu⟩ := (ll_stmtF sz sz n m).s1 s
      rw [ha] at hu
      have hu' : s = u ++ s2 := hu
      have hlt := strict_stmtF sz n m _ _ _ ha
      have hso1 : Sorted s := by rw [hu0'] at hso; exact sorted_suf hso
      have hso2 : Sorted s2 := by rw [hu'] at hso1; exact sorted_suf hso1
      have hafter : ∀ x ∈ s2, t.off < x.off := by
        cases u with
        | nil => rw [hu'] at hlt; simp at hlt
        | cons t' u' =>
          rw [e1] at hu'
          simp at hu'
          obtain ⟨rfl, hr⟩ := hu'
          rw [e1] at hso1
          intro x hx
          exact (List.pairwise_cons.1 hso1).1 x (by rw [hr]; simp [hx])
      obtain ⟨l', i1, i2, i3⟩ := ih _ s2 hso2 l r h
      refine ⟨a :: l', by rw [i1]; simp, fun lo hlo => ⟨?_, ?_⟩, ?_⟩
      · rw [e2]; exact hlo t (by rw [hu0', e1]; simp)
      · rw [e2]; exact i2 _ hafter
      · intro x hx
        rcases List.mem_cons.1 hx with rfl | hx
        · exact ⟨t, by rw [hu0', e1]; simp, e2.symm⟩
        · obtain ⟨y, hy, hr⟩ := i3 x hx
          exact ⟨y, by rw [hu0', hu']; simp [hy], hr⟩

def GoodD (S : List Tk) (d : DataD) : Prop := (∃ t ∈ S, t.off = d.off ∧ t.text = [100, 97, 116, 97]) ∧ ∀ v ∈ d.variants, ∃ t ∈ S, t.off = v.off ∧ t.text = v.name
def GoodT (S : List Tk) (d : TraitD) : Prop := ∃ t ∈ S, t.off = d.off ∧ t.text = [116, 114, 97, 105, 116]
def GoodI (S : List Tk) (d : ImplD) : Prop := ∃ t ∈ S, t.off = d.off ∧ t.text = [105, 109, 112, 108]
def fargs : FuncD → List ArgD
  | .mk _ _ _ _ a _ _ _ => a
def fbody : FuncD → List StmtD
  | .mk _ _ _ _ _ _ b _ => b
def foff : FuncD → Nat
  | .mk _ _ _ _ _ _ _ o => o
def GoodF (S : List Tk) (d : FuncD) : Prop := (∃ t ∈ S, t.off = foff d ∧ t.text = [102, 110]) ∧ (∀ a ∈ fargs d, ∃ t ∈ S, t.off = a.off ∧ t.text = a.name) ∧ (∀ s ∈ fbody d, ∃ t ∈ S, t.off = soff s) ∧ Inc (foff d) (fbody d)
structure GoodM (S : List Tk) (M : ModD) : Prop where
  d : ∀ x ∈ M.datas, GoodD S x
  t : ∀ x ∈ M.traits, GoodT S x
  i : ∀ x ∈ M.impls, GoodI S x
  f : ∀ x ∈ M.funcs, GoodF S x

theorem data_at {sz n o : Nat} {ts r : List Tk} {d : DataD} (h : Px.data sz n o ts = .ok d r) : d.off = o ∧ ∀ v ∈ d.variants, ∃ t ∈ ts, t.off = v.off ∧ t.text = v.name := by
  unfold Px.data at h
  obtain ⟨x, s1, h1, h⟩ := bind_ok h
  obtain ⟨p, s2, h2, h⟩ := bind_ok h
  obtain ⟨_, s3, h3, h⟩ := bind_ok h
  obtain ⟨v, s4, h4, h⟩ := bind_ok h
  have hv := list_all (R := fun t v => t.off = v.off ∧ t.text = v.name) (ll_variant sz sz n).s1 (fun _ _ _ h => variant_at h) h4
  have hv' : ∀ a ∈ v, ∃ t ∈ ts, t.off = a.off ∧ t.text = a.name := fun a ha => by
    obtain ⟨t, ht, hr⟩ := hv a ha
    exact ⟨t, LL.name.s1.sub h1 t (ll_params.s1.sub h2 t ((LL.expect _).s1.sub h3 t ht)), hr⟩
  obtain ⟨_, s5, _, h⟩ := bind_ok h
  obtain ⟨b, s6, _, h⟩ := bind_ok h
  split at h
  · obtain ⟨_, s7, _, h⟩ := bind_ok h
    obtain ⟨_, s8, _, h⟩ := bind_ok h
    obtain ⟨e, _⟩ := pure_ok h
    rw [← e]; exact ⟨rfl, hv'⟩
  · obtain ⟨_, s7, _, h⟩ := bind_ok h
    obtain ⟨e, _⟩ := pure_ok h
    rw [← e]; exact ⟨rfl, hv'⟩
theorem ret_trait (o : Nat) : Ret (fun d => d.off = o) (Px.trait o) := by
  unfold Px.trait
  repeat' (first | exact Ret.pure rfl | apply Ret.bind | intro _)
theorem ret_impl (sz n o : Nat) : Ret (fun d => d.off = o) (Px.implementation sz n o) := by
  unfold Px.implementation
  repeat' (first | exact Ret.pure rfl | apply Ret.bind | intro _)
theorem function_at {sz n o : Nat} {ts r : List Tk} {d : FuncD} (hso : Sorted ts) (hlo : ∀ t ∈ ts, o < t.off) (h : Px.function sz n o ts = .ok d r) :
    foff d = o ∧ (∀ a ∈ fargs d, ∃ t ∈ ts, t.off = a.off ∧ t.text = a.name) ∧ (∀ s ∈ fbody d, ∃ t ∈ ts, t.off = soff s) ∧ Inc o (fbody d) := by
  unfold Px.function at h
  obtain ⟨x, s1, h1, h⟩ := bind_ok h
  obtain ⟨p, s2, h2, h⟩ := bind_ok h
  obtain ⟨sg, s3, h3, h⟩ := bind_ok h
  obtain ⟨bs, s4, h4, h⟩ := bind_ok h
  obtain ⟨b, s5, h5, h⟩ := bind_ok h
  obtain ⟨e, _⟩ := pure_ok h
  have sub2 : ∀ t ∈ s2, t ∈ ts := fun t ht => LL.name.s1.sub h1 t (ll_params.s1.sub h2 t ht)
  have sub4 : ∀ t ∈ s4, t ∈ ts := fun t ht => sub2 t ((ll_signature sz sz n).s1.sub h3 t ((ll_bounds sz sz).s1.sub h4 t ht))
  have hargs : ∀ a ∈ sg.1, ∃ t ∈ ts, t.off = a.off ∧ t.text = a.name := by
    unfold Px.signature at h3
    obtain ⟨a, q1, g1, h3⟩ := bind_ok h3
    obtain ⟨_, q2, _, h3⟩ := bind_ok h3
    obtain ⟨_, q3, _, h3⟩ := bind_ok h3
    obtain ⟨e3, _⟩ := pure_ok h3
    rw [← e3]
    intro y hy
    obtain ⟨t, ht, hr⟩ := pos_all (R := fun t v => t.off = v.off ∧ t.text = v.name) (ll_arg sz sz n).s1 (fun _ _ _ h => arg_at h) g1 y hy
    exact ⟨t, sub2 t ht, hr⟩
  have hbody : (∀ s ∈ b, ∃ t ∈ ts, t.off = soff s) ∧ Inc o b := by
    unfold Px.block at h5
    obtain ⟨_, q1, g1, h5⟩ := bind_ok h5
    have subq : ∀ t ∈ q1, t ∈ ts := fun t ht => sub4 t ((LL.expect _).s1.sub g1 t ht)
    have hsoq : Sorted q1 := by
      have chain : ∃ u, ts = u ++ q1 := by
        obtain ⟨u1, k1⟩ := LL.name.s1 ts
        rw [h1] at k1
        obtain ⟨u2, k2⟩ := ll_params.s1 s1
        rw [h2] at k2
        obtain ⟨u3, k3⟩ := (ll_signature sz sz n).s1 s2
        rw [h3] at k3
        obtain ⟨u4, k4⟩ := (ll_bounds sz sz).s1 s3
        rw [h4] at k4
        obtain ⟨u5, k5⟩ := (LL.expect [[123]]).s1 s4
        rw [g1] at k5
        have k1' : ts = u1 ++ s1 := k1
        have k2' : s1 = u2 ++ s2 := k2
        have k3' : s2 = u3 ++ s3 := k3
        have k4' : s3 = u4 ++ s4 := k4
        have k5' : s4 = u5 ++ q1 := k5
        exact ⟨u1 ++ (u2 ++ (u3 ++ (u4 ++ u5))), by rw [k1', k2', k3', k4', k5']; simp⟩
      obtain ⟨u, hu⟩ := chain
      rw [hu] at hso; exact sorted_suf hso
    obtain ⟨l', e1, i1, i2⟩ := until_inc _ [] q1 hsoq b s5 h5
    rw [List.nil_append] at e1
    subst e1
    exact ⟨fun s hs => by obtain ⟨t, ht, hr⟩ := i2 s hs; exact ⟨t, subq t ht, hr⟩, i1 o (fun t ht => hlo t (subq t ht))⟩
  rw [← e]
  exact ⟨rfl, hargs, hbody.1, hbody.2⟩
theorem item_good {sz n : Nat} {M M' : ModD} {S ts r : List Tk} (hS : ∀ t ∈ ts, t ∈ S) (hso : Sorted ts) (hM : GoodM S M) (h : Px.item sz n M ts = .ok M' r) : GoodM S M' := by
  unfold Px.item at h
  obtain ⟨o, s0, h0, g⟩ := bind_ok h
  clear h
  obtain ⟨e0, ho⟩ := offset_head sz h0
  rw [e0] at g
  obtain ⟨w, s1, h1, h⟩ := bind_ok g
  clear g
  have hlen := expect_len h1 rfl
  cases ts with
  | nil => simp at hlen
  | cons t rest =>
    have hoff : o = t.off := ho t rest rfl
    have hw : w = t.text ∧ s1 = rest := by
      unfold Px.expect at h1
      split at h1
      · cases h1; exact ⟨rfl, rfl⟩
      · cases h1
    obtain ⟨hw1, rfl⟩ := hw
    have hS' : ∀ x ∈ s1, x ∈ S := fun x hx => hS x (by simp [hx])
    have htS : t ∈ S := hS t (by simp)
    have hso' := (List.pairwise_cons.1 hso).2
    have hlo : ∀ x ∈ s1, o < x.off := fun x hx => by rw [hoff]; exact (List.pairwise_cons.1 hso).1 x hx
    have up : ∀ {α : Type} {l : List α} {x : α} {P : α → Prop}, (∀ y ∈ l, P y) → P x → ∀ y ∈ l ++ [x], P y := fun h1 h2 y hy => by
      rcases List.mem_append.1 hy with hy | hy
      · exact h1 y hy
      · simp at hy; subst hy; exact h2
    split at h
    · rename_i hw2
      obtain ⟨d, s2, h2, h⟩ := bind_ok h
      obtain ⟨e, _⟩ := pure_ok h
      obtain ⟨d1, d2⟩ := data_at h2
      rw [← e]
      exact ⟨up hM.d ⟨⟨t, htS, by rw [d1, hoff], by rw [← hw1, hw2]⟩, fun v hv => by obtain ⟨x, hx, hr⟩ := d2 v hv; exact ⟨x, hS' x hx, hr⟩⟩, hM.t, hM.i, hM.f⟩
    · split at h
      · rename_i hw2
        obtain ⟨d, s2, h2, h⟩ := bind_ok h
        obtain ⟨e, _⟩ := pure_ok h
        have d1 := ret_trait o _ _ _ h2
        rw [← e]
        exact ⟨hM.d, up hM.t ⟨t, htS, by rw [d1, hoff], by rw [← hw1, hw2]⟩, hM.i, hM.f⟩
      · split at h
        · rename_i hw2
          obtain ⟨d, s2, h2, h⟩ := bind_ok h
          obtain ⟨e, _⟩ := pure_ok h
          have d1 := ret_impl sz n o _ _ _ h2
          rw [← e]
          exact ⟨hM.d, hM.t, up hM.i ⟨t, htS, by rw [d1, hoff], by rw [← hw1, hw2]⟩, hM.f⟩
        · rename_i n1 n2 n3
          have hm := expect_mem h1
          have hw2 : w = [102, 110] := by
            simp only [List.mem_cons, List.not_mem_nil, or_false] at hm
            rcases hm with hm | hm | hm | hm
            · exact absurd hm n1
            · exact absurd hm n2
            · exact absurd hm n3
            · exact hm
          obtain ⟨d, s2, h2, h⟩ := bind_ok h
          obtain ⟨e, _⟩ := pure_ok h
          obtain ⟨d1, d2, d3, d4⟩ := function_at hso' hlo h2
          rw [← e]
          exact ⟨hM.d, hM.t, hM.i, up hM.f ⟨⟨t, htS, by rw [d1, hoff], by rw [← hw1, hw2]⟩, fun a ha => by obtain ⟨x, hx, hr⟩ := d2 a ha; exact ⟨x, hS' x hx, hr⟩, fun s hs => by obtain ⟨x, hx, hr⟩ := d3 s hs; exact ⟨x, hS' x hx, hr⟩, by rw [d1]; exact d4⟩⟩
theorem items_good {sz n : Nat} {S : List Tk} : ∀ (k : Nat) (M M' : ModD) (ts r : List Tk), (∀ t ∈ ts, t ∈ S) → Sorted ts → GoodM S M → Px.itemsF sz n k M ts = .ok M' r → GoodM S M'
  | 0, _, _, _, _, _, _, _, h => by cases h
  | k + 1, M, M', ts, r, hS, hso, hM, h => by
    cases ts with
    | nil => rw [itemsF_no] at h; cases h; exact hM
    | cons t ts =>
      cases hi : Px.item sz n M (t :: ts) with
      | bad s => rw [itemsF_bad hi] at h; cases h
      | ok m1 s =>
        rw [itemsF_ok hi] at h
        obtain ⟨u, hu⟩ := (ll_item sz sz n M).s1 (t :: ts)
        rw [hi] at hu
        have hu' : t :: ts = u ++ s := hu
        have hso' : Sorted s := by rw [hu'] at hso; exact sorted_suf hso
        exact items_good k m1 M' s r (fun x hx => hS x (by rw [hu']; simp [hx])) hso' (item_good hS hso hM hi) h
theorem lex_sorted {l : List UInt8} {ts : List Tk} {a : Nat} (h : Lx.lexL l = (ts, 0, a)) : Sorted ts := by
  obtain ⟨_, _, _, h4⟩ := Lx.lex_chain l (by rw [h])
  rw [h] at h4
  simp only at h4
  unfold Sorted
  rw [List.pairwise_iff_getElem]
  intro i j hi hj hij
  have hs : ts = ts.take j ++ ts[j] :: ts.drop (j + 1) := by
    rw [← List.drop_eq_getElem_cons hj, List.take_append_drop]
  have h5 := h4
  rw [hs] at h5
  obtain ⟨i1, _, _⟩ := Lx.chain_split l _ _ _ _ h5
  have hm : ts[i] ∈ ts.take j := by
    rw [List.mem_take_iff_getElem]
    exact ⟨i, by omega, rfl⟩
  have h6 := i1 _ hm
  obtain ⟨_, _, _, c4, _⟩ := Lx.chain_at l _ _ i ts[i] h4 (List.getElem?_eq_getElem hi)
  omega
theorem offsets_good {l : List UInt8} {ts : List Tk} {a : Nat} {M : ModD} {r : List Tk} (h : Lx.lexL l = (ts, 0, a)) (hm : Px.module l.length 6001 ts = .ok M r) : GoodM ts M := by
  obtain ⟨t0, t1, t2, us, r3, r4, e, _, _, _, _, hu, hi⟩ := module_parts hm
  have hso := lex_sorted h
  obtain ⟨u, hu2⟩ := (ll_usesF 6001 []).s1 r3
  rw [hu] at hu2
  have hu3 : r3 = u ++ r4 := hu2
  have hts : ts = (t0 :: t1 :: t2 :: u) ++ r4 := by rw [e, hu3]; rfl
  refine items_good _ _ M r4 r (fun t ht => by rw [hts]; exact List.mem_append_right _ ht) (by rw [hts] at hso; exact sorted_suf hso) ⟨?_, ?_, ?_, ?_⟩ hi
  all_goals intro x hx; cases hx
end Go.Proofs.YtefihbhcdocgfaaGreatDoor

/-
  Walks of what the law of the offsets calls: starts; the cells of a row.
-/
namespace Go.Proofs.YtefihbhcdocgfaaGreatDoor
open Go.RowKit Go.Lib
open Lx (Tk)
open Px (Txt TyE VarD DataD TraitD BoundD ImplD ArgD ExprD StmtD ArmD FuncD ModD)

theorem place_of {ts : List Tk} (hs : Sorted ts) {i : Nat} {t : Tk} (h : ts[i]? = some t) : placeL ts (t.off : Int) = i := by
  obtain ⟨hi, he⟩ := List.getElem?_eq_some_iff.1 h
  unfold placeL
  rw [List.findIdx_eq hi]
  refine ⟨by simp [he], fun j hj => ?_⟩
  have := List.pairwise_iff_getElem.1 hs j i (by omega) hi hj
  rw [he] at this
  rw [beq_eq_false_iff_ne]
  omega
theorem placeL_lt {ts : List Tk} (hs : Sorted ts) {o : Nat} (h : ∃ t ∈ ts, t.off = o) : placeL ts (o : Int) < ts.length := by
  obtain ⟨t, ht, rfl⟩ := h
  obtain ⟨i, hi, he⟩ := List.getElem_of_mem ht
  have h2 : ts[i]? = some t := by rw [List.getElem?_eq_getElem hi, he]
  rw [place_of hs h2]; exact hi
set_option maxRecDepth 100000 in
theorem starts_any (ts : List Tk) (o : Nat) (x : ByteArray) (a : Option Addr) (cap Tb : Nat) (w : World) (h : TokV w Tb (.slice a ts.length cap) ts) (hn : ts.length ≤ 6000) (hc : ts.length ≤ cap) (hTb : Tb < w.heap.size) (hs : Sorted ts) (hm : ∃ t ∈ ts, t.off = o ∧ t.text = x.data.toList) :
    Calls Tryz.prog 17 #[.slice a ts.length cap, .int .i64 o, .string x] w fun e w' => e = .returned (.bool true) ∧ w = w' := by
  obtain ⟨t, ht, rfl, hx⟩ := hm
  obtain ⟨i, hi, he⟩ := List.getElem_of_mem ht
  have h2 : ts[i]? = some t := by rw [List.getElem?_eq_getElem hi, he]
  have hp := place_of hs h2
  obtain ⟨oo, rfl, _, _, _, hc1, _⟩ := h.at h2
  have ex : (⟨t.text.toArray⟩ : ByteArray) = x := by rw [hx]
  rw [ex] at hc1
  have HT := Lib.hid h
  have HP := Lib.hid hp
  clear h hp h2 he ht hx ex hs
  have hlt : decide ((i : Int) < (ts.length : Int)) = true := by simp; omega
  have hlt' : decide (i < ts.length) = true := by simp; omega
  have hltI : (i : Int) < (ts.length : Int) := by omega
  go_enter Tryz.func17, Tryz.ntmps17
  go_wp2_with fail
  refine (place_any ts _ _ cap Tb _ HT.out hn hc hTb).mono ?_
  rintro e w' ⟨rfl, rfl⟩
  rw [HP.out]
  go_wp2_with fail
  go_ret
  exact ⟨rfl, rfl⟩
/-- the cells of a row among rows -/
theorem rows_get {α : Type} {f : α → Q} {w : World} {N : Nat → Prop} {sz : Nat} (hsz : ∀ a, (f a).len = sz) : ∀ (l : List α) (cs : List Value) (i : Nat) (a : α), Rep w N (rowsQ f l) cs → l[i]? = some a → ∃ ds, Rep w N (f a) ds ∧ ds.length = sz ∧ ∀ j, j < sz → cs[i * sz + j]? = ds[j]?
  | [], _, _, _, _, h => by simp at h
  | b :: l, cs, i, a, hr, h => by
    rw [rowsQ] at hr
    obtain ⟨x, y, rfl, h1, h2⟩ := hr.split
    have hx : x.length = sz := by rw [h1.len, hsz]
    cases i with
    | zero =>
      simp at h; subst h
      refine ⟨x, h1, hx, fun j hj => ?_⟩
      rw [Nat.zero_mul, Nat.zero_add, List.getElem?_append_left (by omega)]
    | succ i =>
      simp at h
      obtain ⟨ds, g1, g2, g3⟩ := rows_get hsz l y i a h2 h
      refine ⟨ds, g1, g2, fun j hj => ?_⟩
      rw [List.getElem?_append_right (by rw [hx, Nat.succ_mul]; omega), hx]
      rw [← g3 j hj]
      congr 1
      rw [Nat.succ_mul]; omega
theorem len_types {l : List TyE} {r : Q} : (typesS l r).len = r.len + 1 := by simp [typesS, Q.len, Nat.add_comm]
theorem RowV.shape {w : World} {N : Nat → Prop} {E s n : Nat} {q : Q} {v : Value} (h : RowV w N E s n q v) : ∃ p c, v = .slice p n c := by
  rcases h with ⟨rfl, rfl, _⟩ | ⟨g, cap, cur, xs, rfl, _⟩
  · exact ⟨_, _, rfl⟩
  · exact ⟨_, _, rfl⟩
theorem type_shape {w : World} {N : Nat → Prop} {t : TyE} {cs : List Value} (h : Rep w N (typeQ t) cs) : ∃ s p n c o, cs = [.string s, .slice p n c, .int .i64 o] := by
  cases t with
  | mk x a o =>
    rw [typeQ_mk, rep_str] at h
    obtain ⟨c1, rfl, h⟩ := h
    rw [typesS, rep_sl] at h
    obtain ⟨v, c2, rfl, hv, h⟩ := h
    obtain ⟨p, c, rfl⟩ := hv.shape
    rw [rep_int] at h
    obtain ⟨c3, rfl, h⟩ := h
    rw [rep_nil] at h
    subst h
    exact ⟨_, _, _, _, _, rfl⟩
theorem type_cells {w : World} {N : Nat → Prop} {t : TyE} {cs : List Value} (h : Rep w N (typeQ t) cs) : ∃ a b c, cs = [a, b, c] := by
  obtain ⟨_, _, _, _, _, rfl⟩ := type_shape h
  exact ⟨_, _, _, rfl⟩
theorem expr_cells {w : World} {N : Nat → Prop} {x : ExprD} {cs : List Value} (h : Rep w N (exprQ x) cs) : ∃ a b c d e f g i, cs = [a, b, c, d, e, f, g, i] := by
  rw [exprQ, rep_int] at h
  obtain ⟨c1, rfl, h⟩ := h
  rw [rep_str] at h
  obtain ⟨c2, rfl, h⟩ := h
  rw [rep_str] at h
  obtain ⟨c3, rfl, h⟩ := h
  rw [rep_str] at h
  obtain ⟨c4, rfl, h⟩ := h
  rw [strsQ, rep_sl] at h
  obtain ⟨v, c5, rfl, _, h⟩ := h
  rw [rep_int] at h
  obtain ⟨c6, rfl, h⟩ := h
  rw [typesS, rep_sl] at h
  obtain ⟨v2, c7, rfl, _, h⟩ := h
  rw [rep_int] at h
  obtain ⟨c8, rfl, h⟩ := h
  rw [rep_nil] at h
  subst h
  exact ⟨_, _, _, _, _, _, _, _, rfl⟩
theorem var_cells {w : World} {N : Nat → Prop} {v : VarD} {cs : List Value} (h : Rep w N (varQ v) cs) : ∃ a, cs = [.string ⟨v.name.toArray⟩, a, .int .i64 v.off] := by
  rw [varQ, rep_str] at h
  obtain ⟨c1, rfl, h⟩ := h
  rw [typesS, rep_sl] at h
  obtain ⟨u, c2, rfl, _, h⟩ := h
  rw [rep_int] at h
  obtain ⟨c3, rfl, h⟩ := h
  rw [rep_nil] at h
  subst h
  exact ⟨_, rfl⟩
theorem data_cells {w : World} {N : Nat → Prop} {d : DataD} {cs : List Value} (h : Rep w N (dataQ d) cs) : ∃ a b u, cs = [a, b, u, .int .i64 d.drop, .int .i64 d.off] ∧ RowV w N 57 3 d.variants.length (rowsQ varQ d.variants) u := by
  rw [dataQ, rep_str] at h
  obtain ⟨c1, rfl, h⟩ := h
  rw [strsQ, rep_sl] at h
  obtain ⟨u, c2, rfl, _, h⟩ := h
  rw [rep_sl] at h
  obtain ⟨u2, c3, rfl, hr, h⟩ := h
  rw [rep_int] at h
  obtain ⟨c4, rfl, h⟩ := h
  rw [rep_int] at h
  obtain ⟨c5, rfl, h⟩ := h
  rw [rep_nil] at h
  subst h
  exact ⟨_, _, _, rfl, hr⟩
theorem trait_cells {w : World} {N : Nat → Prop} {d : TraitD} {cs : List Value} (h : Rep w N (traitQ d) cs) : ∃ a, cs = [a, .int .i64 d.off] := by
  rw [traitQ, rep_str] at h
  obtain ⟨c1, rfl, h⟩ := h
  rw [rep_int] at h
  obtain ⟨c2, rfl, h⟩ := h
  rw [rep_nil] at h
  subst h
  exact ⟨_, rfl⟩
theorem impl_cells {w : World} {N : Nat → Prop} {d : ImplD} {cs : List Value} (h : Rep w N (implQ d) cs) : ∃ a b c x y z f, cs = [a, b, c, x, y, z, f, .int .i64 d.off] := by
  rw [implQ, rep_str] at h
  obtain ⟨c1, rfl, h⟩ := h
  rw [strsQ, rep_sl] at h
  obtain ⟨u, c2, rfl, _, h⟩ := h
  rw [boundsS, rep_sl] at h
  obtain ⟨u2, c3, rfl, _, h⟩ := h
  obtain ⟨a, b, rfl, ha, hb⟩ := h.split
  clear h
  obtain ⟨x, y, z, rfl⟩ := type_cells ha
  rw [rep_str] at hb
  obtain ⟨c4, rfl, h⟩ := hb
  rw [rep_int] at h
  obtain ⟨c5, rfl, h⟩ := h
  rw [rep_nil] at h
  subst h
  exact ⟨_, _, _, _, _, _, _, rfl⟩
theorem arg_cells {w : World} {N : Nat → Prop} {d : ArgD} {cs : List Value} (h : Rep w N (argQ d) cs) : ∃ x y z c, cs = [.string ⟨d.name.toArray⟩, x, y, z, c, .int .i64 d.off] := by
  rw [argQ, rep_str] at h
  obtain ⟨c1, rfl, h⟩ := h
  obtain ⟨a, b, rfl, ha, hb⟩ := h.split
  clear h
  obtain ⟨x, y, z, rfl⟩ := type_cells ha
  rw [rep_int] at hb
  obtain ⟨c4, rfl, h⟩ := hb
  rw [rep_int] at h
  obtain ⟨c5, rfl, h⟩ := h
  rw [rep_nil] at h
  subst h
  exact ⟨_, _, _, _, rfl⟩
theorem stmt_cells {w : World} {N : Nat → Prop} {d : StmtD} {cs : List Value} (h : Rep w N (stmtQ d) cs) : cs[16]? = some (.int .i64 (soff d)) := by
  cases d with
  | mk k x l t e th el ar fn o =>
    rw [stmtQ_mk, rep_int] at h
    obtain ⟨c1, rfl, h⟩ := h
    rw [rep_str] at h
    obtain ⟨c2, rfl, h⟩ := h
    rw [strsQ, rep_sl] at h
    obtain ⟨u, c3, rfl, _, h⟩ := h
    rw [typesS, rep_sl] at h
    obtain ⟨u2, c4, rfl, _, h⟩ := h
    obtain ⟨a, b, rfl, ha, hb⟩ := h.split
    clear h
    obtain ⟨a1, a2, a3, a4, a5, a6, a7, a8, rfl⟩ := expr_cells ha
    rw [stmtsS, rep_sl] at hb
    obtain ⟨u3, c5, rfl, _, h⟩ := hb
    rw [stmtsS, rep_sl] at h
    obtain ⟨u4, c6, rfl, _, h⟩ := h
    rw [armsS, rep_sl] at h
    obtain ⟨u5, c7, rfl, _, h⟩ := h
    rw [funcsS, rep_sl] at h
    obtain ⟨u6, c8, rfl, _, h⟩ := h
    rw [rep_int] at h
    obtain ⟨c9, rfl, h⟩ := h
    rfl
/-- the cells of a function -/
def fcells (x : ByteArray) (p1 : Option Addr) (n1 c1 : Nat) (p2 : Option Addr) (n2 c2 : Nat) (p3 : Option Addr) (n3 c3 : Nat) (p4 : Option Addr) (n4 c4 : Nat) (y : ByteArray) (p5 : Option Addr) (n5 c5 : Nat) (o : Int) (p6 : Option Addr) (n6 c6 : Nat) (q : Int) : List Value :=
  [.string x, .slice p1 n1 c1, .slice p2 n2 c2, .slice p3 n3 c3, .slice p4 n4 c4, .string y, .slice p5 n5 c5, .int .i64 o, .slice p6 n6 c6, .int .i64 q]
theorem func_cells {w : World} {N : Nat → Prop} {d : FuncD} {cs : List Value} (h : Rep w N (funcQ d) cs) : ∃ x p1 n1 c1 p2 n2 c2 p3 n3 c3 p4 c4 y p5 n5 c5 o p6 c6,
    cs = fcells x p1 n1 c1 p2 n2 c2 p3 n3 c3 p4 (fargs d).length c4 y p5 n5 c5 o p6 (fbody d).length c6 (foff d) ∧
    RowV w N 70 6 (fargs d).length (rowsQ argQ (fargs d)) (.slice p4 (fargs d).length c4) ∧ RowV w N 75 17 (fbody d).length (rowsQ stmtQ (fbody d)) (.slice p6 (fbody d).length c6) := by
  cases d with
  | mk x p bs c a t b o =>
    rw [funcQ_mk, rep_str] at h
    obtain ⟨c1, rfl, h⟩ := h
    rw [strsQ, rep_sl] at h
    obtain ⟨u, c2, rfl, h1, h⟩ := h
    rw [boundsS, rep_sl] at h
    obtain ⟨u2, c3, rfl, h2, h⟩ := h
    rw [argsS, rep_sl] at h
    obtain ⟨u3, c4, rfl, h3, h⟩ := h
    rw [argsS, rep_sl] at h
    obtain ⟨u4, c5, rfl, hu, h⟩ := h
    obtain ⟨k, m, rfl, ha, hb⟩ := h.split
    clear h
    obtain ⟨y, p5, n5, c50, o5, rfl⟩ := type_shape ha
    rw [stmtsS, rep_sl] at hb
    obtain ⟨u5, c6, rfl, hv, h⟩ := hb
    rw [rep_int] at h
    obtain ⟨c7, rfl, h⟩ := h
    rw [rep_nil] at h
    subst h
    obtain ⟨q1, d1, rfl⟩ := h1.shape
    obtain ⟨q2, d2, rfl⟩ := h2.shape
    obtain ⟨q3, d3, rfl⟩ := h3.shape
    obtain ⟨q4, d4, rfl⟩ := hu.shape
    obtain ⟨q5, d5, rfl⟩ := hv.shape
    exact ⟨_, _, _, _, _, _, _, _, _, _, _, _, _, _, _, _, _, _, _, rfl, hu, hv⟩
theorem mod_cells {w : World} {N : Nat → Prop} {M : ModD} {cs : List Value} (h : Rep w N (modQ M) cs) : ∃ x p d t i f, cs = [.string x, p, d, t, i, f] ∧ RowV w N 54 5 M.datas.length (rowsQ dataQ M.datas) d ∧ RowV w N 59 2 M.traits.length (rowsQ traitQ M.traits) t ∧
    RowV w N 64 8 M.impls.length (rowsQ implQ M.impls) i ∧ RowV w N 68 10 M.funcs.length (rowsQ funcQ M.funcs) f := by
  rw [modQ, rep_str] at h
  obtain ⟨c1, rfl, h⟩ := h
  rw [strsQ, rep_sl] at h
  obtain ⟨u, c2, rfl, _, h⟩ := h
  rw [rep_sl] at h
  obtain ⟨u2, c3, rfl, h1, h⟩ := h
  rw [rep_sl] at h
  obtain ⟨u3, c4, rfl, h2, h⟩ := h
  rw [rep_sl] at h
  obtain ⟨u4, c5, rfl, h3, h⟩ := h
  rw [rep_sl] at h
  obtain ⟨u5, c6, rfl, h4, h⟩ := h
  rw [rep_nil] at h
  subst h
  exact ⟨_, _, _, _, _, _, rfl, h1, h2, h3, h4⟩
theorem rep_width {w : World} {N : Nat → Prop} {q : Q} {cs : List Value} {n : Nat} (h : Rep w N q cs) (hn : cs.length = n) : q.len = n := by rw [← h.len, hn]
/-- the cells of the element i of a row that data came in -/
theorem row_at {α : Type} {f : α → Q} {w : World} {N : Nat → Prop} {E s : Nat} {l : List α} {v : Value} {i : Nat} {a : α} (h : RowV w N E s l.length (rowsQ f l) v) (hsz : ∀ a, (f a).len = s) (hi : l[i]? = some a) :
    ∃ g cap ds, v = .slice (some ⟨g, 0, none⟩) l.length cap ∧ g < w.heap.size ∧ l.length ≤ cap ∧ cap ≤ maxLen ∧ Rep w N (f a) ds ∧ ∀ j, j < s → w.cell? ⟨g, i * s + j, none⟩ = ds[j]? := by
  have hl : i < l.length := by
    rcases Nat.lt_or_ge i l.length with h | h
    · exact h
    · rw [List.getElem?_eq_none h] at hi; cases hi
  obtain ⟨g, cap, xs, rfl, _, hg, hc, hm, _, hx, hr⟩ := h.get (by omega)
  obtain ⟨ds, k1, k2, k3⟩ := rows_get hsz l xs i a hr hi
  refine ⟨g, cap, ds, rfl, hg, hc, hm, k1, fun j hj => ?_⟩
  have hb : i * s + j < l.length * s := by
    have h1 : i * s + s ≤ l.length * s := by rw [← Nat.succ_mul]; exact Nat.mul_le_mul_right _ hl
    omega
  rw [hx _ hb, k3 j hj]
/-- the offset that came before the statement i -/
def lastOf (lo : Nat) (l : List StmtD) : Nat → Nat
  | 0 => lo
  | k + 1 => (l[k]?.map soff).getD 0
theorem lastOf_succ {lo : Nat} {l : List StmtD} {k : Nat} {s : StmtD} (h : l[k]? = some s) : lastOf lo l (k + 1) = soff s := by simp [lastOf, h]
theorem inc_get : ∀ (l : List StmtD) (lo i : Nat) (s : StmtD), Inc lo l → l[i]? = some s → lastOf lo l i < soff s
  | [], _, _, _, _, h => by simp at h
  | b :: l, lo, i, s, h, hi => by
    cases i with
    | zero => simp at hi; subst hi; exact h.1
    | succ i =>
      simp at hi
      have := inc_get l (soff b) i s h.2 hi
      cases i with
      | zero => simpa [lastOf] using this
      | succ i => simpa [lastOf] using this
end Go.Proofs.YtefihbhcdocgfaaGreatDoor
