/-
  What is read has not more facts than thirty times the tokens that it took: the rest.
-/
import Derived.Test.YtpdhiminpdmpiaaGreatDoorVR
set_option linter.unusedVariables false
set_option linter.unusedSimpArgs false
set_option linter.unusedSectionVars false
namespace Go.Proofs.YtpdhiminpdmpiaaGreatDoor
open Lx (Tk)
open Px (Txt TyE VarD DataD TraitD BoundD ImplD ArgD ExprD StmtD ArmD FuncD ModD)

section
variable {α β : Type} {c n : Int} {f : β → Int} {g : α → Int}
end
theorem sumW_one {α : Type} (l : List α) : sumW (fun _ => 1) l = l.length := by
  induction l with
  | nil => rfl
  | cons a l ih => rw [sumW_cons, ih]; simp; (try dsimp only); omega
section
variable {α : Type} {n : Int} {g : α → Int} {p : Px.Rd α} (hp : Wt n g p) (hn : n ≤ 0)
end
section
variable (off : Bool)
def wT (t : TyE) : Int := ((fT off t).length : Int)
def wB (b : BoundD) : Int := ((fBs off [b]).length : Int)
def wA (a : ArgD) : Int := ((fAs off [a]).length : Int)
def wM (s : ArmD) : Int := ((fM off s).length : Int)
def wF (s : FuncD) : Int := ((fF off s).length : Int)
def wV (v : VarD) : Int := ((fVs off [v]).length : Int)
theorem oF_len (n : Nat) : ((oF off n).length : Int) ≤ 1 := by unfold oF; split <;> simp [nF]
theorem tF_len (l : List Txt) : ((tF l).length : Int) = 1 + l.length := by simp [tF, nF]; (try dsimp only); omega
theorem wTs : ∀ l : List TyE, ((fTs off l).length : Int) = sumW (wT off) l
  | [] => by rw [fTs]; rfl
  | t :: r => by rw [fTs, sumW_cons, List.length_append, ← wTs r, wT]; (try dsimp only); omega
theorem typesF_len (l : List TyE) : ((typesF off l).length : Int) = 1 + sumW (wT off) l := by rw [typesF, List.length_append, nF_len, ← wTs]; (try dsimp only); omega
theorem wBs : ∀ l : List BoundD, ((fBs off l).length : Int) = sumW (wB off) l
  | [] => by rw [fBs]; rfl
  | t :: r => by rw [fBs, sumW_cons, wB, fBs, fBs]; simp only [List.length_append, List.length_nil]; have := wBs r; (try dsimp only); omega
theorem boundsF_len (l : List BoundD) : ((boundsF off l).length : Int) = 1 + sumW (wB off) l := by rw [boundsF, List.length_append, nF_len, ← wBs]; (try dsimp only); omega
theorem wAs : ∀ l : List ArgD, ((fAs off l).length : Int) = sumW (wA off) l
  | [] => by rw [fAs]; rfl
  | t :: r => by rw [fAs, sumW_cons, wA, fAs, fAs]; simp only [List.length_append, List.length_nil]; have := wAs r; (try dsimp only); omega
theorem argsF_len (l : List ArgD) : ((argsF off l).length : Int) = 1 + sumW (wA off) l := by rw [argsF, List.length_append, nF_len, ← wAs]; (try dsimp only); omega
theorem wSs : ∀ l : List StmtD, ((fSs off l).length : Int) = sumW (wS off) l
  | [] => by rw [fSs]; rfl
  | t :: r => by rw [fSs, sumW_cons, List.length_append, ← wSs r, wS]; (try dsimp only); omega
theorem wMs : ∀ l : List ArmD, ((fMs off l).length : Int) = sumW (wM off) l
  | [] => by rw [fMs]; rfl
  | t :: r => by rw [fMs, sumW_cons, List.length_append, ← wMs r, wM]; (try dsimp only); omega
theorem wFs : ∀ l : List FuncD, ((fFs off l).length : Int) = sumW (wF off) l
  | [] => by rw [fFs]; rfl
  | t :: r => by rw [fFs, sumW_cons, List.length_append, ← wFs r, wF]; (try dsimp only); omega
theorem wVs : ∀ l : List VarD, ((fVs off l).length : Int) = sumW (wV off) l
  | [] => by rw [fVs]; rfl
  | t :: r => by rw [fVs, sumW_cons, wV, fVs, fVs]; simp only [List.length_append, List.length_nil]; have := wVs r; (try dsimp only); omega
/-- weights of what has been put together -/
theorem wT_mk (x : Txt) (a : List TyE) (o : Nat) : wT off (.mk x a o) ≤ 4 + sumW (wT off) a := by
  rw [wT, fT]
  simp only [List.length_append, nF_len, Int.natCast_add, tF_len, wTs]
  have := oF_len off o
  simp
  (try dsimp only); omega
theorem wB_mk (b : BoundD) : wB off b ≤ 4 := by
  rw [wB, fBs, fBs]
  simp only [List.length_append, nF_len, Int.natCast_add, tF_len]
  have := oF_len off b.off
  simp
  (try dsimp only); omega
theorem wA_mk (b : ArgD) : wA off b ≤ 5 + wT off b.type := by
  rw [wA, fAs, fAs]
  simp only [List.length_append, nF_len, Int.natCast_add, tF_len, typesF_len, sumW_cons, sumW_nil]
  have := oF_len off b.off
  simp
  (try dsimp only); omega
theorem wV_mk (b : VarD) : wV off b ≤ 4 + sumW (wT off) b.fields := by
  rw [wV, fVs, fVs]
  simp only [List.length_append, nF_len, Int.natCast_add, tF_len, typesF_len, sumW_cons, sumW_nil]
  have := oF_len off b.off
  simp
  (try dsimp only); omega
def wE (e : ExprD) : Int := e.names.length + sumW (wT off) e.type
theorem wS_mk (k : Nat) (x : Txt) (l : List Txt) (t : List TyE) (e : ExprD) (th el : List StmtD) (ar : List ArmD) (fn : List FuncD) (o : Nat) :
    wS off (.mk k x l t e th el ar fn o) ≤ 18 + l.length + sumW (wT off) t + wE off e + sumW (wS off) th + sumW (wS off) el + sumW (wM off) ar + sumW (wF off) fn := by
  rw [wS, fS]
  simp only [List.length_append, nF_len, Int.natCast_add, tF_len, typesF_len, wSs, wMs, wFs, wE]
  have := oF_len off o
  have := oF_len off e.off
  simp
  (try dsimp only); omega
theorem wM_mk (x : Txt) (l : List Txt) (b : List StmtD) (o : Nat) : wM off (.mk x l b o) ≤ 5 + l.length + sumW (wS off) b := by
  rw [wM, fM]
  simp only [List.length_append, nF_len, Int.natCast_add, tF_len, typesF_len, wSs]
  have := oF_len off o
  simp
  (try dsimp only); omega
theorem wF_mk (x : Txt) (p : List Txt) (bs : List BoundD) (c a : List ArgD) (t : TyE) (b : List StmtD) (o : Nat) :
    wF off (.mk x p bs c a t b o) ≤ 9 + p.length + sumW (wB off) bs + sumW (wA off) c + sumW (wA off) a + wT off t + sumW (wS off) b := by
  rw [wF, fF]
  simp only [List.length_append, nF_len, Int.natCast_add, tF_len, typesF_len, boundsF_len, argsF_len, wSs, sumW_cons, sumW_nil]
  have := oF_len off o
  simp
  (try dsimp only); omega
variable (sz : Nat)
theorem wt_type : ∀ n : Nat, Wt (-25) (wT off) (Px.typeF sz n) := by
  intro n
  induction n with
  | zero => exact Wt.refuse
  | succ n ih =>
    rw [Px.typeF]
    refine Wt.bind Wt.word fun w => Wt.bind (Wt.off sz) fun o => Wt.bind (Wt.accept (by rfl)) fun b => Wt.ite (fun hb => ?_) (fun hb => ?_)
    · refine Wt.pure ?_
      have := wT_mk off w [] o
      rw [if_pos hb]; rw [sumW_nil] at this; (try dsimp only); omega
    · refine Wt.bind (Wt.accept (by rfl)) fun b2 => Wt.ite (fun hb2 => ?_) (fun hb2 => ?_)
      · refine Wt.bind (Wt.expect (by rfl)) fun _ => Wt.bind ih fun t => Wt.bind (Wt.expect (by rfl)) fun _ => Wt.pure ?_
        have := wT_mk off w [t] o
        rw [if_pos hb2, if_neg hb]; rw [sumW_cons, sumW_nil] at this; (try dsimp only); omega
      · refine Wt.bind (Wt.accept (by rfl)) fun b3 => Wt.ite (fun hb3 => ?_) (fun hb3 => ?_)
        · refine Wt.bind ih fun t => Wt.pure ?_
          have := wT_mk off w [t] o
          rw [if_pos hb3, if_neg hb2, if_neg hb]; rw [sumW_cons, sumW_nil] at this; (try dsimp only); omega
        · refine Wt.bind Wt.name fun x => Wt.bind (Wt.opt ih (by decide) (by rfl) (by rfl)) fun a => Wt.pure ?_
          have := wT_mk off x a o
          rw [if_neg hb3, if_neg hb2, if_neg hb]; (try dsimp only); omega
theorem wt_params : Wt 0 (fun l => (l.length : Int)) Px.params := by
  have := Wt.opt Wt.name (by decide) (o := [60]) (c := [62]) (by rfl) (by rfl)
  intro ts l r h
  have h2 := this ts l r h
  rw [sumW_one] at h2
  exact h2
theorem wt_names {o c : Txt} (ho : ([o] : List Txt).contains [] = false) (hc : ([c] : List Txt).contains [] = false) : Wt 0 (fun l => (l.length : Int)) (Px.optionalList o Px.name c) := by
  intro ts l r h
  have h2 := Wt.opt Wt.name (by decide) ho hc ts l r h
  rw [sumW_one] at h2
  exact h2
theorem wt_pos {o c : Txt} (ho : ([o] : List Txt).contains [] = false) (hc : ([c] : List Txt).contains [] = false) : Wt (-30) (fun l => (l.length : Int)) (Px.possiblyEmptyList o Px.name c) := by
  intro ts l r h
  have h2 := Wt.pos Wt.name (by decide) ho hc ts l r h
  rw [sumW_one] at h2
  exact h2
theorem wt_bound : Wt (-30) (wB off) (Px.bound sz) := by
  unfold Px.bound
  refine Wt.bind (Wt.off sz) fun o => Wt.bind Wt.name fun p => Wt.bind (Wt.expect (by rfl)) fun _ => Wt.bind Wt.name fun t => Wt.pure ?_
  have := wB_mk off ⟨p, t, o⟩
  (try dsimp only); omega
theorem wt_bounds : Wt 0 (sumW (wB off)) (Px.bounds sz) := by
  unfold Px.bounds
  refine Wt.bind (Wt.accept (by rfl)) fun b => Wt.ite (fun hb => ?_) (fun hb => ?_)
  · exact (Wt.list (wt_bound off sz) (by decide)).le (by rw [if_pos hb]; omega)
  · exact Wt.pure (by rw [if_neg hb, sumW_nil]; omega)
theorem wt_variant (n : Nat) : Wt (-20) (wV off) (Px.variant sz n) := by
  unfold Px.variant
  refine Wt.bind (Wt.off sz) fun o => Wt.bind Wt.name fun x => Wt.bind (Wt.opt (wt_type off sz n) (by decide) (by rfl) (by rfl)) fun f => Wt.pure ?_
  have := wV_mk off ⟨x, f, o⟩
  simp only at this
  (try dsimp only); omega
theorem wt_arg (n : Nat) : Wt (-30) (wA off) (Px.arg sz n) := by
  unfold Px.arg
  refine Wt.bind (Wt.off sz) fun o => Wt.bind Wt.name fun x => Wt.bind (Wt.expect (by rfl)) fun _ => Wt.bind (wt_type off sz n) fun t => Wt.pure ?_
  have := wA_mk off ⟨x, t, 0, o⟩
  simp only at this
  (try dsimp only); omega
theorem wt_kind : Wt (-30) (fun _ => 0) Px.captureKind := by
  unfold Px.captureKind
  refine Wt.bind (Wt.expect (by rfl)) fun w => Wt.ite (fun _ => Wt.pure (by omega)) (fun _ => Wt.ite (fun _ => Wt.pure (by omega)) (fun _ => Wt.pure (by omega)))
theorem wt_capture (n : Nat) : Wt (-30) (wA off) (Px.capture sz n) := by
  unfold Px.capture
  refine Wt.bind (Wt.off sz) fun o => Wt.bind wt_kind fun k => Wt.bind (wt_arg off sz n) fun a => Wt.pure ?_
  have h1 := wA_mk off ⟨a.name, a.type, k, o⟩
  have h2 : wT off a.type ≤ wA off a := by
    rw [wA, fAs, fAs]
    simp only [List.length_append, nF_len, Int.natCast_add, tF_len, typesF_len, sumW_cons, sumW_nil]
    (try dsimp only); omega
  simp only at h1
  (try dsimp only); omega
theorem wt_signature (n : Nat) : Wt (-30) (fun s => sumW (wA off) s.1 + wT off s.2) (Px.signature sz n) := by
  unfold Px.signature
  refine Wt.bind (Wt.pos (wt_arg off sz n) (by decide) (by rfl) (by rfl)) fun a => Wt.bind (Wt.expect (by rfl)) fun _ => Wt.bind (wt_type off sz n) fun t => Wt.pure ?_
  simp only
  (try dsimp only); omega
theorem wt_operands : ∀ k : Nat, Wt 0 (fun l => (l.length : Int)) (Px.operands k)
  | 0 => Wt.pure (by simp)
  | k + 1 => by
    rw [Px.operands]
    refine Wt.bind (wt_operands k) fun l => Wt.bind Wt.name fun x => Wt.pure ?_
    simp; (try dsimp only); omega
theorem wE_0 : wE off Px.expr0 = 0 := rfl
theorem wt_operation (kind k : Nat) : Wt 0 (wE off) (Px.operation kind k) := by
  unfold Px.operation
  refine Wt.bind (wt_operands k) fun l => Wt.pure ?_
  simp only [wE, Px.expr0, sumW_nil]; (try dsimp only); omega
theorem wt_reference (a b c : Nat) : Wt 0 (wE off) (Px.reference a b c) := by
  unfold Px.reference
  refine Wt.bind (Wt.accept (by rfl)) fun b => Wt.ite (fun hb => (wt_operation off _ _).le (by rw [if_pos hb]; omega)) (fun hb => ?_)
  refine Wt.bind (Wt.accept (by rfl)) fun b2 => Wt.ite (fun hb2 => (wt_operation off _ _).le (by rw [if_pos hb2, if_neg hb]; omega)) (fun hb2 => (wt_operation off _ _).le (by rw [if_neg hb2, if_neg hb]; omega))
theorem wt_newValue : Wt 0 (wE off) Px.newValue := by
  unfold Px.newValue
  refine Wt.bind Wt.name fun x => Wt.bind (Wt.expect (by rfl)) fun _ => Wt.bind Wt.name fun v => Wt.bind (wt_names (by rfl) (by rfl)) fun l => Wt.pure ?_
  simp only [wE, Px.expr0, sumW_nil]; (try dsimp only); omega
theorem wt_afterName (x : Txt) : Wt 1 (wE off) (Px.afterName x) := by
  unfold Px.afterName
  refine Wt.bind Wt.word fun w => Wt.bind (Wt.accept (by rfl)) fun b => Wt.ite (fun hb => ?_) (fun hb => ?_)
  · refine Wt.bind Wt.name fun y => Wt.pure ?_
    rw [if_pos hb]; simp only [wE, Px.expr0, sumW_nil, List.length_cons, List.length_nil]; (try dsimp only); omega
  · rw [if_neg hb]
    refine Wt.bind (Wt.accept (by rfl)) fun b2 => Wt.ite (fun hb2 => ?_) (fun hb2 => ?_)
    · refine Wt.bind Wt.number fun y => Wt.pure ?_
      rw [if_pos hb2]; simp only [wE, Px.expr0, sumW_nil, List.length_cons, List.length_nil]; (try dsimp only); omega
    · rw [if_neg hb2]
      refine Wt.ite (fun _ => ?_) (fun _ => ?_)
      · refine Wt.bind (wt_pos (by rfl) (by rfl)) fun l => Wt.pure ?_
        simp only [wE, Px.expr0, sumW_nil]; (try dsimp only); omega
      · refine Wt.bind (Wt.accept (by rfl)) fun b3 => Wt.ite (fun hb3 => ?_) (fun hb3 => ?_)
        · refine Wt.bind Wt.name fun y => Wt.pure ?_
          rw [if_pos hb3]; simp only [wE, Px.expr0, sumW_nil, List.length_cons, List.length_nil]; (try dsimp only); omega
        · rw [if_neg hb3]
          refine Wt.pure ?_
          simp only [wE, Px.expr0, sumW_nil, List.length_cons, List.length_nil]; (try dsimp only); omega
theorem wt_unplaced (n : Nat) : Wt 0 (wE off) (Px.unplaced sz n) := by
  unfold Px.unplaced
  refine Wt.bind Wt.num fun b => Wt.ite (fun hb => ?_) (fun hb => ?_)
  · refine Wt.bind Wt.number fun k => Wt.pure ?_
    simp only [wE, Px.expr0, sumW_nil, List.length_nil]; (try dsimp only); omega
  refine Wt.bind (Wt.accept (by rfl)) fun b => Wt.ite (fun hb => ?_) (fun hb => ?_)
  · refine Wt.bind Wt.number fun k => Wt.pure ?_
    rw [if_pos hb]; simp only [wE, Px.expr0, sumW_nil, List.length_nil]; (try dsimp only); omega
  rw [if_neg hb]
  refine Wt.bind (Wt.accept (by rfl)) fun b => Wt.ite (fun hb => ?_) (fun hb => ?_)
  · exact (wt_newValue off).le (by rw [if_pos hb]; omega)
  rw [if_neg hb]
  refine Wt.bind (Wt.accept (by rfl)) fun b => Wt.ite (fun hb => ?_) (fun hb => ?_)
  · exact (wt_operation off _ _).le (by rw [if_pos hb]; omega)
  rw [if_neg hb]
  refine Wt.bind (Wt.accept (by rfl)) fun b => Wt.ite (fun hb => ?_) (fun hb => ?_)
  · exact (wt_operation off _ _).le (by rw [if_pos hb]; omega)
  rw [if_neg hb]
  refine Wt.bind (Wt.accept (by rfl)) fun b => Wt.ite (fun hb => ?_) (fun hb => ?_)
  · exact (wt_reference off _ _ _).le (by rw [if_pos hb]; omega)
  rw [if_neg hb]
  refine Wt.bind (Wt.accept (by rfl)) fun b => Wt.ite (fun hb => ?_) (fun hb => ?_)
  · exact (wt_reference off _ _ _).le (by rw [if_pos hb]; omega)
  rw [if_neg hb]
  refine Wt.bind (Wt.accept (by rfl)) fun b => Wt.ite (fun hb => ?_) (fun hb => ?_)
  · exact (wt_operation off _ _).le (by rw [if_pos hb]; omega)
  rw [if_neg hb]
  refine Wt.bind (Wt.accept (by rfl)) fun b => Wt.ite (fun hb => ?_) (fun hb => ?_)
  · exact (wt_operation off _ _).le (by rw [if_pos hb]; omega)
  rw [if_neg hb]
  refine Wt.bind (Wt.accept (by rfl)) fun b => Wt.ite (fun hb => ?_) (fun hb => ?_)
  · exact (wt_operation off _ _).le (by rw [if_pos hb]; omega)
  rw [if_neg hb]
  refine Wt.bind (Wt.accept (by rfl)) fun b => Wt.ite (fun hb => ?_) (fun hb => ?_)
  · refine Wt.bind (wt_type off sz n) fun t => Wt.pure ?_
    rw [if_pos hb]; simp only [wE, Px.expr0, sumW_nil, sumW_cons, List.length_nil]; (try dsimp only); omega
  rw [if_neg hb]
  refine Wt.bind (Wt.accept (by rfl)) fun b => Wt.ite (fun hb => ?_) (fun hb => ?_)
  · exact (wt_operation off _ _).le (by rw [if_pos hb]; omega)
  rw [if_neg hb]
  refine Wt.bind Wt.name fun x => ?_
  exact (wt_afterName off x).le (by omega)
theorem wt_expr (n : Nat) : Wt 0 (wE off) (Px.expr sz n) := by
  unfold Px.expr
  refine Wt.bind (Wt.off sz) fun o => Wt.bind (wt_unplaced off sz n) fun e => Wt.pure ?_
  show wE off e ≤ _
  (try dsimp only); omega
section
variable {S : Px.Rd StmtD} (hS : Wt 0 (wS off) S)
theorem wt_let (n o : Nat) : Wt 0 (wS off) (Px.letS sz n o) := by
  unfold Px.letS
  refine Wt.bind Wt.name fun x => Wt.bind (Wt.accept (by rfl)) fun b => Wt.ite (fun hb => ?_) (fun hb => ?_)
  · refine Wt.bind (wt_type off sz n) fun t => Wt.bind (Wt.expect (by rfl)) fun _ => Wt.bind (wt_expr off sz n) fun e => Wt.bind (Wt.expect (by rfl)) fun _ => Wt.pure ?_
    refine Int.le_trans (wS_mk off _ _ _ _ _ _ _ _ _ _) ?_
    rw [if_pos hb]; simp only [sumW_cons, sumW_nil, List.length_nil]; (try dsimp only); omega
  · refine Wt.bind (Wt.expect (by rfl)) fun _ => Wt.bind (wt_expr off sz n) fun e => Wt.bind (Wt.expect (by rfl)) fun _ => Wt.pure ?_
    refine Int.le_trans (wS_mk off _ _ _ _ _ _ _ _ _ _) ?_
    rw [if_neg hb]; simp only [sumW_cons, sumW_nil, List.length_nil]; (try dsimp only); omega
theorem wt_set (n o : Nat) : Wt 0 (wS off) (Px.setS sz n o) := by
  unfold Px.setS
  refine Wt.bind Wt.name fun x => Wt.bind (Wt.expect (by rfl)) fun _ => Wt.bind (wt_expr off sz n) fun e => Wt.bind (Wt.expect (by rfl)) fun _ => Wt.pure ?_
  refine Int.le_trans (wS_mk off _ _ _ _ _ _ _ _ _ _) ?_
  simp only [sumW_cons, sumW_nil, List.length_nil]; (try dsimp only); omega
theorem wt_store (o : Nat) : Wt 0 (wS off) (Px.storeS o) := by
  unfold Px.storeS
  refine Wt.bind Wt.name fun x => Wt.bind (Wt.expect (by rfl)) fun _ => Wt.bind Wt.name fun y => Wt.bind (Wt.expect (by rfl)) fun _ => Wt.pure ?_
  refine Int.le_trans (wS_mk off _ _ _ _ _ _ _ _ _ _) ?_
  simp only [sumW_cons, sumW_nil, List.length_nil, List.length_cons, wE_0]; (try dsimp only); omega
theorem wt_named (k o : Nat) : Wt 0 (wS off) (Px.namedS k o) := by
  unfold Px.namedS
  refine Wt.bind Wt.name fun x => Wt.bind (Wt.expect (by rfl)) fun _ => Wt.pure ?_
  refine Int.le_trans (wS_mk off _ _ _ _ _ _ _ _ _ _) ?_
  simp only [sumW_cons, sumW_nil, List.length_nil, List.length_cons, wE_0]; (try dsimp only); omega
theorem wt_bare (o : Nat) : Wt 0 (wS off) (Px.bareS o) := by
  unfold Px.bareS
  refine Wt.bind (Wt.expect (by rfl)) fun _ => Wt.pure ?_
  refine Int.le_trans (wS_mk off _ _ _ _ _ _ _ _ _ _) ?_
  simp only [sumW_cons, sumW_nil, List.length_nil, List.length_cons, wE_0]; (try dsimp only); omega
theorem wt_send (o : Nat) : Wt 0 (wS off) (Px.sendS o) := by
  unfold Px.sendS
  refine Wt.bind Wt.name fun x => Wt.bind Wt.name fun y => Wt.bind (Wt.expect (by rfl)) fun _ => Wt.pure ?_
  refine Int.le_trans (wS_mk off _ _ _ _ _ _ _ _ _ _) ?_
  simp only [sumW_cons, sumW_nil, List.length_nil, List.length_cons, wE_0]; (try dsimp only); omega
theorem wt_spawn (o : Nat) : Wt 0 (wS off) (Px.spawnS o) := by
  unfold Px.spawnS
  refine Wt.bind Wt.name fun x => Wt.bind (wt_pos (by rfl) (by rfl)) fun y => Wt.bind (Wt.expect (by rfl)) fun _ => Wt.pure ?_
  refine Int.le_trans (wS_mk off _ _ _ _ _ _ _ _ _ _) ?_
  simp only [sumW_cons, sumW_nil, List.length_nil, List.length_cons, wE_0]; (try dsimp only); omega
include hS
theorem wt_choice (o : Nat) : Wt 0 (wS off) (Px.choiceS S o) := by
  unfold Px.choiceS
  refine Wt.bind Wt.name fun x => Wt.bind (Wt.block hS (by decide) hS (by decide)) fun t => Wt.bind (Wt.accept (by rfl)) fun b => Wt.ite (fun hb => ?_) (fun hb => ?_)
  · refine Wt.bind (Wt.block hS (by decide) hS (by decide)) fun e => Wt.pure ?_
    refine Int.le_trans (wS_mk off _ _ _ _ _ _ _ _ _ _) ?_
    rw [if_pos hb]; simp only [sumW_cons, sumW_nil, List.length_nil, List.length_cons, wE_0]; (try dsimp only); omega
  · refine Wt.pure ?_
    refine Int.le_trans (wS_mk off _ _ _ _ _ _ _ _ _ _) ?_
    rw [if_neg hb]; simp only [sumW_cons, sumW_nil, List.length_nil, List.length_cons, wE_0]; (try dsimp only); omega
theorem wt_loop (o : Nat) : Wt 0 (wS off) (Px.loopS S o) := by
  unfold Px.loopS
  refine Wt.bind Wt.name fun x => Wt.bind (Wt.block hS (by decide) hS (by decide)) fun t => Wt.pure ?_
  refine Int.le_trans (wS_mk off _ _ _ _ _ _ _ _ _ _) ?_
  simp only [sumW_cons, sumW_nil, List.length_nil, List.length_cons, wE_0]; (try dsimp only); omega
theorem wt_arm : Wt (-30) (wM off) (Px.arm sz S) := by
  unfold Px.arm
  refine Wt.bind (Wt.off sz) fun o => Wt.bind Wt.name fun x => Wt.bind (wt_names (by rfl) (by rfl)) fun l => Wt.bind (Wt.block hS (by decide) hS (by decide)) fun b => Wt.pure ?_
  refine Int.le_trans (wM_mk off _ _ _ _) ?_
  (try dsimp only); omega
theorem wt_match (o : Nat) : Wt 0 (wS off) (Px.matchS sz S o) := by
  unfold Px.matchS
  refine Wt.bind Wt.name fun x => Wt.bind (Wt.expect (by rfl)) fun _ => Wt.bind (wt_arm off sz hS) fun a => Wt.bind (Wt.brace (wt_arm off sz hS) (by decide)) fun l => Wt.pure ?_
  refine Int.le_trans (wS_mk off _ _ _ _ _ _ _ _ _ _) ?_
  simp only [sumW_cons, sumW_nil, List.length_nil, List.length_cons, wE_0]; (try dsimp only); omega
theorem wt_localF (n o : Nat) : Wt (-30) (wF off) (Px.localFunction sz n S o) := by
  unfold Px.localFunction
  refine Wt.bind Wt.name fun x => Wt.bind (Wt.pos (wt_capture off sz n) (by decide) (by rfl) (by rfl)) fun c => Wt.bind (wt_signature off sz n) fun s => Wt.bind (Wt.block hS (by decide) hS (by decide)) fun b => Wt.pure ?_
  refine Int.le_trans (wF_mk off _ _ _ _ _ _ _ _) ?_
  simp only [sumW_cons, sumW_nil, List.length_nil, List.length_cons]; (try dsimp only); omega
theorem wt_localS (n o : Nat) : Wt 0 (wS off) (Px.localS sz n S o) := by
  unfold Px.localS
  refine Wt.bind (wt_localF off sz hS n o) fun f => Wt.pure ?_
  refine Int.le_trans (wS_mk off _ _ _ _ _ _ _ _ _ _) ?_
  simp only [sumW_cons, sumW_nil, List.length_nil, List.length_cons, wE_0]; (try dsimp only); omega
theorem wt_afterForm (n k o : Nat) : Wt 0 (wS off) (Px.afterForm sz n S k o) := by
  unfold Px.afterForm
  repeat' (first | exact wt_let off sz n o | exact wt_store off o | exact wt_choice off hS o | exact wt_loop off hS o | exact wt_match off sz hS o | exact wt_bare off o | exact wt_send off o | exact wt_spawn off o | exact wt_localS off sz hS n o | exact wt_named off k o | refine Wt.ite (fun _ => ?_) (fun _ => ?_))
end
theorem wt_stmt (n : Nat) : ∀ m : Nat, Wt 0 (wS off) (Px.stmtF sz n m) := by
  intro m
  induction m with
  | zero => exact Wt.refuse
  | succ m ih =>
    rw [Px.stmtF]
    refine Wt.bind (Wt.off sz) fun o => Wt.bind Wt.word fun w => Wt.ite (fun _ => ?_) (fun _ => ?_)
    · exact (wt_set off sz n o).le (by omega)
    · refine Wt.bind Wt.take fun _ => ?_
      exact (wt_afterForm off sz ih n _ o).le (by omega)
theorem wt_function (n o : Nat) : Wt 0 (wF off) (Px.function sz n o) := by
  unfold Px.function
  refine Wt.bind Wt.name fun x => Wt.bind wt_params fun p => Wt.bind (wt_signature off sz n) fun s => Wt.bind (wt_bounds off sz) fun b => Wt.bind (Wt.block (wt_stmt off sz n n) (by decide) (wt_stmt off sz n n) (by decide)) fun l => Wt.pure ?_
  refine Int.le_trans (wF_mk off _ _ _ _ _ _ _ _) ?_
  simp only [sumW_cons, sumW_nil, List.length_nil, List.length_cons]; (try dsimp only); omega
def wD (d : DataD) : Int := ((fDs off [d]).length : Int)
def wR (d : TraitD) : Int := ((fRs off [d]).length : Int)
def wI (d : ImplD) : Int := ((fIs off [d]).length : Int)
theorem wDs : ∀ l : List DataD, ((fDs off l).length : Int) = sumW (wD off) l
  | [] => by rw [fDs]; rfl
  | t :: r => by rw [fDs, sumW_cons, wD, fDs, fDs]; simp only [List.length_append, List.length_nil]; have := wDs r; (try dsimp only); omega
theorem wRs : ∀ l : List TraitD, ((fRs off l).length : Int) = sumW (wR off) l
  | [] => by rw [fRs]; rfl
  | t :: r => by rw [fRs, sumW_cons, wR, fRs, fRs]; simp only [List.length_append, List.length_nil]; have := wRs r; (try dsimp only); omega
theorem wIs : ∀ l : List ImplD, ((fIs off l).length : Int) = sumW (wI off) l
  | [] => by rw [fIs]; rfl
  | t :: r => by rw [fIs, sumW_cons, wI, fIs, fIs]; simp only [List.length_append, List.length_nil]; have := wIs r; (try dsimp only); omega
theorem wD_mk (d : DataD) : wD off d ≤ 6 + d.params.length + sumW (wV off) d.variants := by
  rw [wD, fDs, fDs]
  simp only [List.length_append, nF_len, Int.natCast_add, tF_len, wVs]
  have := oF_len off d.off
  simp
  (try dsimp only); omega
theorem wR_mk (d : TraitD) : wR off d ≤ 3 := by
  rw [wR, fRs, fRs]
  simp only [List.length_append, nF_len, Int.natCast_add, tF_len]
  have := oF_len off d.off
  simp
  (try dsimp only); omega
theorem wI_mk (d : ImplD) : wI off d ≤ 7 + d.params.length + sumW (wB off) d.bounds + wT off d.type := by
  rw [wI, fIs, fIs]
  simp only [List.length_append, nF_len, Int.natCast_add, tF_len, boundsF_len, typesF_len, sumW_cons, sumW_nil]
  have := oF_len off d.off
  simp
  (try dsimp only); omega
theorem wt_drop : Wt 0 (fun _ => 0) Px.dropAction := by
  unfold Px.dropAction
  refine Wt.bind (Wt.accept (by rfl)) fun b => Wt.ite (fun hb => Wt.pure (by rw [if_pos hb]; omega)) (fun hb => ?_)
  rw [if_neg hb]
  refine Wt.bind Wt.number fun k => Wt.pure (by omega)
theorem wt_data (n o : Nat) : Wt 0 (wD off) (Px.data sz n o) := by
  unfold Px.data
  refine Wt.bind Wt.name fun x => Wt.bind wt_params fun p => Wt.bind (Wt.expect (by rfl)) fun _ => Wt.bind (Wt.list (wt_variant off sz n) (by decide)) fun v => Wt.bind (Wt.expect (by rfl)) fun _ => Wt.bind (Wt.accept (by rfl)) fun b => Wt.ite (fun hb => ?_) (fun hb => ?_)
  · rw [if_pos hb]
    refine Wt.bind wt_drop fun d => Wt.bind (Wt.expect (by rfl)) fun _ => Wt.pure ?_
    refine Int.le_trans (wD_mk off _) ?_
    simp only
    (try dsimp only); omega
  · rw [if_neg hb]
    refine Wt.bind (Wt.expect (by rfl)) fun _ => Wt.pure ?_
    refine Int.le_trans (wD_mk off _) ?_
    simp only
    (try dsimp only); omega
theorem wt_trait (o : Nat) : Wt 0 (wR off) (Px.trait o) := by
  unfold Px.trait
  refine Wt.bind Wt.name fun x => Wt.bind (Wt.expect (by rfl)) fun _ => Wt.pure ?_
  refine Int.le_trans (wR_mk off _) ?_
  (try dsimp only); omega
theorem wt_impl (n o : Nat) : Wt 0 (wI off) (Px.implementation sz n o) := by
  unfold Px.implementation
  refine Wt.bind wt_params fun p => Wt.bind Wt.name fun t => Wt.bind (Wt.expect (by rfl)) fun _ => Wt.bind (wt_type off sz n) fun ty => Wt.bind (wt_bounds off sz) fun b => Wt.bind (Wt.expect (by rfl)) fun _ => Wt.bind Wt.name fun f => Wt.bind (Wt.expect (by rfl)) fun _ => Wt.pure ?_
  refine Int.le_trans (wI_mk off _) ?_
  simp only
  (try dsimp only); omega
def wMod (m : ModD) : Int := ((factsM off m).length : Int)
theorem wMod_mk (m : ModD) : wMod off m = 7 + m.uses.length + sumW (wD off) m.datas + sumW (wR off) m.traits + sumW (wI off) m.impls + sumW (wF off) m.funcs := by
  rw [wMod, factsM]
  simp only [List.length_append, nF_len, Int.natCast_add, tF_len, wDs, wRs, wIs, wFs]
  simp
  (try dsimp only); omega
theorem wt_item (n : Nat) (m : ModD) : Wt (wMod off m) (wMod off) (Px.item sz n m) := by
  unfold Px.item
  refine Wt.bind (Wt.off sz) fun o => Wt.bind (Wt.expect (by rfl)) fun w => ?_
  refine Wt.ite (fun _ => Wt.bind (wt_data off sz n o) fun d => Wt.pure ?_) (fun _ => Wt.ite (fun _ => Wt.bind (wt_trait off o) fun d => Wt.pure ?_) (fun _ => Wt.ite (fun _ => Wt.bind (wt_impl off sz n o) fun d => Wt.pure ?_) (fun _ => Wt.bind (wt_function off sz n o) fun d => Wt.pure ?_)))
  all_goals
    simp only [wMod_mk, sumW_snoc]
    (try dsimp only); omega
theorem wt_items (n : Nat) : ∀ (k : Nat) (m : ModD), Wt (wMod off m) (wMod off) (Px.itemsF sz n k m) := by
  intro k
  induction k with
  | zero => intro m; exact Wt.refuse
  | succ k ih =>
    intro m
    rw [Px.itemsF]
    refine Wt.bind Wt.done fun b => Wt.ite (fun _ => Wt.pure (by omega)) (fun _ => ?_)
    refine Wt.bind (wt_item off sz n m) fun m' => ?_
    exact (ih m').le (by omega)
theorem wt_uses : ∀ (k : Nat) (l : List Txt), Wt l.length (fun l => (l.length : Int)) (Px.usesF k l) := by
  intro k
  induction k with
  | zero => intro l; exact Wt.refuse
  | succ k ih =>
    intro l
    rw [Px.usesF]
    refine Wt.bind (Wt.accept (by rfl)) fun b => Wt.ite (fun hb => ?_) (fun hb => ?_)
    · rw [if_pos hb]
      refine Wt.bind Wt.name fun x => Wt.bind (Wt.expect (by rfl)) fun _ => ?_
      exact (ih _).le (by simp; omega)
    · rw [if_neg hb]
      exact Wt.pure (by omega)
theorem wt_module (n : Nat) : Wt 0 (wMod off) (Px.module sz n) := by
  unfold Px.module
  refine Wt.bind (Wt.expect (by rfl)) fun _ => Wt.bind Wt.name fun x => Wt.bind (Wt.expect (by rfl)) fun _ => Wt.bind (wt_uses n []) fun u => ?_
  refine (wt_items off sz n n _).le ?_
  rw [wMod_mk]
  simp only [sumW_nil, List.length_nil]
  (try dsimp only); omega
/-- a module that is read has at most thirty facts for each token -/
theorem facts_few {sz n : Nat} {ts r : List Tk} {M : ModD} (h : Px.module sz n ts = .ok M r) : (factsM off M).length ≤ 30 * ts.length := by
  have h1 := wt_module off sz n _ _ _ h
  unfold wMod at h1
  (try dsimp only); omega
end
end Go.Proofs.YtpdhiminpdmpiaaGreatDoor

