/- part of the proof -/
import Derived.Test.YtcdlnhfgehhkcaaQ47
import Derived.Test.YtcdlnhfgehhkcaaQ48
set_option linter.unusedVariables false
set_option linter.unusedSimpArgs false
set_option linter.unusedSectionVars false
namespace Go.Proofs.Ytcdlnhfgehhkcaa
open Go.RowKit Go.Lib
open Un (kd nm ar size sizes acc accs fits valid)
theorem acc_flat (ds : List Int) (p m : Int) (t : Ty) (hm : m ≠ 0) : acc ds p m t =
    (if kd t = 1 ∨ kd t = 6 then decide (nm t = 0) && decide ((ar t).length = 0)
     else if kd t = 5 then (decide (0 ≤ nm t) && decide (nm t < p)) && decide ((ar t).length = 0)
     else if kd t = 2 then (decide (0 ≤ nm t) && decide (nm t < ds.length)) && (decide (((ar t).length : Int) = ds.getD (nm t).toNat 0) && (ar t).all (fun a : Ty => fits (kd t) a && acc ds p (m - 1) a))
     else if kd t = 3 ∨ kd t = 4 ∨ kd t = 7 ∨ kd t = 8 then decide (nm t = 0) && (decide (((ar t).length : Int) = 1) && (ar t).all (fun a : Ty => fits (kd t) a && acc ds p (m - 1) a))
     else false):=by
  obtain ⟨k,i,al⟩:=t
  have hie : al.isEmpty = decide (al.length = 0):=by cases al <;> simp
  rw [acc,if_neg hm,Un.accs_all,hie]
  rfl
theorem formed_nat (ds : List Int) (p : Int) (ps : List Value) : ∀ n : Nat,n ≤ 8 → ∀ (t : Ty) (cs : List Value) (w : World),ProgV w (fun _ => True) ds ps → TyV w (fun _ => True) t cs →
    Calls Try.prog 58 #[.agg ps.toArray,.int .i64 p,.agg cs.toArray,.int .i64 n] w (LookP (acc ds p n t) w):=by
  intro n
  induction n with
  | zero =>
    intro _ t cs w hp h
    have h1:=f_low ds p 0 ps cs t w hp h (by omega)
    have e : acc ds p ((0 : Nat) : Int) t = false:=by obtain ⟨k,i,al⟩:=t;rw [acc,if_pos (by rfl)]
    rw [e]
    exact h1
  | succ n ih =>
    intro hn8 t cs w hp h
    have hn1 : (1 : Int) ≤ ((n + 1 : Nat) : Int):=by omega
    have hn9 : ((n + 1 : Nat) : Int) ≤ 8:=by omega
    have e1 : ((n + 1 : Nat) : Int) - 1 = n:=by omega
    have ih2 : ∀ (x : Ty) (cs : List Value) (wx : World),Fr [] w wx → TyV wx (fun _ => True) x cs → Calls Try.prog 58 #[.agg ps.toArray,.int .i64 p,.agg cs.toArray,.int .i64 (((n + 1 : Nat) : Int) - 1)] wx (LookP (acc ds p (((n + 1 : Nat) : Int) - 1) x) wx):=fun x cs wx hf hx => by
      rw [e1]
      exact ih (by omega) x cs wx (hp.keep0 hf) hx
    have ih3 : ∀ x ∈ ar t,∀ (cs : List Value) (wx : World),Fr [] w wx → TyV wx (fun _ => True) x cs → Calls Try.prog 58 #[.agg ps.toArray,.int .i64 p,.agg cs.toArray,.int .i64 (((n + 1 : Nat) : Int) - 1)] wx (LookP (acc ds p (((n + 1 : Nat) : Int) - 1) x) wx):=fun x _ => ih2 x
    have hacc:=acc_flat ds p ((n + 1 : Nat) : Int) t (by omega)
    obtain ⟨m,hm⟩ : ∃ m,m = ((n + 1 : Nat) : Int):=⟨_,rfl⟩
    rw [← hm] at hn1 hn9 ih2 ih3 hacc ⊢
    have fin : ∀ b,acc ds p m t = b → Calls Try.prog 58 #[.agg ps.toArray,.int .i64 p,.agg cs.toArray,.int .i64 m] w (LookP b w) → Calls Try.prog 58 #[.agg ps.toArray,.int .i64 p,.agg cs.toArray,.int .i64 m] w (LookP (acc ds p m t) w):=fun b e h => by rw [e];exact h
    have hst : kd t ≠ 7 → (fun a : Ty => fits (kd t) a && acc ds p (m - 1) a) = (fun a : Ty => Un.stored a && acc ds p (m - 1) a):=fun hk => by
      funext a
      unfold Un.fits
      have : (kd t == 7) = false:=by simpa using hk
      rw [this]
      simp
    by_cases k1 : kd t = 1
    · by_cases h1 : nm t = 0
      · by_cases h2 : (ar t).length = 0
        · exact fin true (by rw [hacc,if_pos (Or.inl k1)];simp [h1,h2]) (f_i1c ds p m ps cs t w hp h hn1 k1 h1 h2)
        · exact fin false (by rw [hacc,if_pos (Or.inl k1)];simp only [decide_eq_false h2,Bool.and_false]) (f_i1b ds p m ps cs t w hp h hn1 k1 h1 h2)
      · exact fin false (by rw [hacc,if_pos (Or.inl k1)];simp only [decide_eq_false h1,Bool.false_and]) (f_i1a ds p m ps cs t w hp h hn1 k1 h1)
    by_cases k6 : kd t = 6
    · by_cases h1 : nm t = 0
      · by_cases h2 : (ar t).length = 0
        · exact fin true (by rw [hacc,if_pos (Or.inr k6)];simp [h1,h2]) (f_i6c ds p m ps cs t w hp h hn1 k6 h1 h2)
        · exact fin false (by rw [hacc,if_pos (Or.inr k6)];simp only [decide_eq_false h2,Bool.and_false]) (f_i6b ds p m ps cs t w hp h hn1 k6 h1 h2)
      · exact fin false (by rw [hacc,if_pos (Or.inr k6)];simp only [decide_eq_false h1,Bool.false_and]) (f_i6a ds p m ps cs t w hp h hn1 k6 h1)
    rw [if_neg (by omega)] at hacc
    by_cases k5 : kd t = 5
    · rw [if_pos k5] at hacc
      by_cases h1 : 0 ≤ nm t
      · by_cases h2 : nm t < p
        · by_cases h3 : (ar t).length = 0
          · exact fin true (by rw [hacc];simp only [decide_eq_true h1,decide_eq_true h2,decide_eq_true h3];rfl) (f_pd ds p m ps cs t w hp h hn1 k5 h1 h2 h3)
          · exact fin false (by rw [hacc];simp only [decide_eq_false h3,Bool.and_false]) (f_pc ds p m ps cs t w hp h hn1 k5 h1 h2 h3)
        · exact fin false (by rw [hacc];simp only [decide_eq_false h2,Bool.and_false,Bool.false_and]) (f_pb ds p m ps cs t w hp h hn1 k5 h1 (by omega))
      · exact fin false (by rw [hacc];simp only [decide_eq_false h1,Bool.false_and]) (f_pa ds p m ps cs t w hp h hn1 k5 (by omega))
    rw [if_neg k5] at hacc
    by_cases k2 : kd t = 2
    · rw [if_pos k2,hst (by omega)] at hacc
      by_cases h1 : 0 ≤ nm t
      · by_cases h2 : nm t < ds.length
        · obtain ⟨i,hi⟩ : ∃ i : Nat,nm t = i:=⟨(nm t).toNat,by omega⟩
          have hil : i < ds.length:=by omega
          have hgd : ds.getD (nm t).toNat 0 = ds[i]:=by rw [hi,Int.toNat_natCast];simp [hil]
          rw [hgd] at hacc
          by_cases h3 : ((ar t).length : Int) = ds[i]
          · exact fin ((ar t).all (fun a : Ty => Un.stored a && acc ds p (m - 1) a)) (by rw [hacc];simp only [decide_eq_true h1,decide_eq_true h2,decide_eq_true h3,Bool.true_and]) (f_loop ds p m ps cs t w hp h hn1 hn9 2 _ k2 rfl (acc ds p (m - 1)) (ar t).length rfl (.inr (.inr ⟨rfl,i,hil,hi,h3⟩)) ih3)
          · exact fin false (by rw [hacc];simp only [decide_eq_false h3,Bool.and_false,Bool.false_and]) (f_dc ds p m ps cs t w hp h hn1 k2 i hi hil h3)
        · exact fin false (by rw [hacc];simp only [decide_eq_false h2,Bool.and_false,Bool.false_and]) (f_db ds p m ps cs t w hp h hn1 k2 h1 (by omega))
      · exact fin false (by rw [hacc];simp only [decide_eq_false h1,Bool.false_and]) (f_da ds p m ps cs t w hp h hn1 k2 (by omega))
    rw [if_neg k2] at hacc
    by_cases k3 : kd t = 3
    · rw [if_pos (Or.inl k3),hst (by omega)] at hacc
      by_cases h1 : nm t = 0
      · by_cases h2 : (ar t).length = 1
        · exact fin ((ar t).all (fun a : Ty => Un.stored a && acc ds p (m - 1) a)) (by rw [hacc,h1,h2];simp) (f_loop ds p m ps cs t w hp h hn1 hn9 3 _ k3 rfl (acc ds p (m - 1)) (ar t).length rfl (.inl ⟨(.inl rfl),h1,h2⟩) ih3)
        · exact fin false (by rw [hacc,decide_eq_false (show ¬ (((ar t).length : Int) = 1) by omega)];simp) (f_o3b ds p m ps cs t w hp h hn1 k3 h1 h2)
      · exact fin false (by rw [hacc,decide_eq_false h1];rfl) (f_o3a ds p m ps cs t w hp h hn1 k3 h1)
    by_cases k4 : kd t = 4
    · rw [if_pos (Or.inr (Or.inl k4)),hst (by omega)] at hacc
      by_cases h1 : nm t = 0
      · by_cases h2 : (ar t).length = 1
        · exact fin ((ar t).all (fun a : Ty => Un.stored a && acc ds p (m - 1) a)) (by rw [hacc,h1,h2];simp) (f_loop ds p m ps cs t w hp h hn1 hn9 4 _ k4 rfl (acc ds p (m - 1)) (ar t).length rfl (.inl ⟨(.inr (.inl rfl)),h1,h2⟩) ih3)
        · exact fin false (by rw [hacc,decide_eq_false (show ¬ (((ar t).length : Int) = 1) by omega)];simp) (f_o4b ds p m ps cs t w hp h hn1 k4 h1 h2)
      · exact fin false (by rw [hacc,decide_eq_false h1];rfl) (f_o4a ds p m ps cs t w hp h hn1 k4 h1)
    by_cases k8 : kd t = 8
    · rw [if_pos (Or.inr (Or.inr (Or.inr k8))),hst (by omega)] at hacc
      by_cases h1 : nm t = 0
      · by_cases h2 : (ar t).length = 1
        · exact fin ((ar t).all (fun a : Ty => Un.stored a && acc ds p (m - 1) a)) (by rw [hacc,h1,h2];simp) (f_loop ds p m ps cs t w hp h hn1 hn9 8 _ k8 rfl (acc ds p (m - 1)) (ar t).length rfl (.inl ⟨(.inr (.inr rfl)),h1,h2⟩) ih3)
        · exact fin false (by rw [hacc,decide_eq_false (show ¬ (((ar t).length : Int) = 1) by omega)];simp) (f_o8b ds p m ps cs t w hp h hn1 k8 h1 h2)
      · exact fin false (by rw [hacc,decide_eq_false h1];rfl) (f_o8a ds p m ps cs t w hp h hn1 k8 h1)
    by_cases k7 : kd t = 7
    · rw [if_pos (Or.inr (Or.inr (Or.inl k7)))] at hacc
      by_cases h1 : nm t = 0
      · by_cases h2 : (ar t).length = 1
        · obtain ⟨x0,hx⟩ : ∃ x0,ar t = [x0]:=List.length_eq_one_iff.1 h2
          have hx0 : (ar t)[0]? = some x0:=by rw [hx];rfl
          by_cases hx6 : kd x0 = 6
          · have hf : fits (kd t) x0 = true:=by unfold Un.fits;simp [k7,hx6]
            exact fin (acc ds p (m - 1) x0) (by rw [hacc,h1,h2,hx];simp [hf]) (f_o7c ds p m ps cs t w hp h hn1 hn9 k7 h1 (ar t).length rfl h2 x0 hx0 hx6 _ (ih2 x0))
          · have hf : fits (kd t) x0 = Un.stored x0:=by
              unfold Un.fits
              have : (kd x0 == 6) = false:=by simpa using hx6
              rw [this]
              simp
            exact fin ((ar t).all (fun a : Ty => Un.stored a && acc ds p (m - 1) a)) (by rw [hacc,h1,h2,hx];simp [hf]) (f_loop ds p m ps cs t w hp h hn1 hn9 7 _ k7 rfl (acc ds p (m - 1)) (ar t).length rfl (.inr (.inl ⟨rfl,h1,h2,x0,hx0,hx6⟩)) ih3)
        · exact fin false (by rw [hacc,decide_eq_false (show ¬ (((ar t).length : Int) = 1) by omega)];simp) (f_o7b ds p m ps cs t w hp h hn1 k7 h1 h2)
      · exact fin false (by rw [hacc,decide_eq_false h1];rfl) (f_o7a ds p m ps cs t w hp h hn1 k7 h1)
    rw [if_neg (by omega)] at hacc
    exact fin false hacc (f_other ds p m ps cs t w hp h hn1 (by omega))
set_option maxRecDepth 100000 in
set_option maxHeartbeats 1600000 in
theorem rvalid_any (ds : List Int) (p : Int) (ps cs : List Value) (t : Ty) (w : World) (hp : ProgV w (fun _ => True) ds ps) (h : TyV w (fun _ => True) t cs) :
    Calls Try.prog 22 #[.agg ps.toArray,.int .i64 p,.agg cs.toArray] w (LookP (valid ds p t) w):=by
  have HC : Hid (∀ wx,Fr [] w wx → Calls Try.prog 58 #[.agg ps.toArray,.int .i64 p,.agg cs.toArray,.int .i64 8] wx (LookP (acc ds p 8 t) wx)):=hid (fun wx hf => formed_nat ds p ps 8 (by omega) t cs wx (hp.keep0 hf) (h.keep0 hf))
  obtain ⟨p0,n0,c0,p1,n1,c1,dv,p3,n3,c3,p4,n4,c4,p5,n5,c5,p6,n6,c6,m,rfl,hd⟩:=hp
  obtain ⟨pt,ct,rfl,hat⟩:=h.shape
  obtain ⟨pd,cd,rfl⟩:=hd.shape
  obtain ⟨V,hV⟩ : ∃ V,V = valid ds p t:=⟨_,rfl⟩
  rw [← hV]
  have HV:=hid hV
  obtain ⟨w1,hw1⟩ : ∃ w1,w1 = (w.alloc (.cells #[.slice p0 n0 c0,.slice p1 n1 c1,.slice pd ds.length cd,.slice p3 n3 c3,.slice p4 n4 c4,.slice p5 n5 c5,.slice p6 n6 c6,.int .i64 m] 32)).alloc (.cells #[.int .i64 (kd t),.int .i64 (nm t),.slice pt (ar t).length ct] 24):=⟨_,rfl⟩
  have HF0 : Hid (Fr [] w w1):=hid (by rw [hw1];exact ((Fr.refl _ _).alloc _).alloc _)
  clear hd h hat hV
  cases e1 : decide (0 ≤ p) with
  | false =>
    have HE : Hid (V = false):=hid (by rw [HV.out];unfold Un.valid;rw [e1];rfl)
    go_enter Try.func22,Try.ntmps22
    go_wp2_with fail
    go_ret
    exact ⟨by rw [HE.out];rfl,by rw [← hw1];exact HF0.out⟩
  | true =>
    cases e2 : decide (p ≤ 4) with
    | false =>
      have HE : Hid (V = false):=hid (by rw [HV.out];unfold Un.valid;rw [e1,e2];rfl)
      go_enter Try.func22,Try.ntmps22
      go_wp2_with fail
      go_ret
      exact ⟨by rw [HE.out];rfl,by rw [← hw1];exact HF0.out⟩
    | true =>
      have HE : Hid (V = acc ds p 8 t):=hid (by rw [HV.out];unfold Un.valid;rw [e1,e2];rfl)
      go_enter Try.func22,Try.ntmps22
      go_wp2_with fail
      rw [← hw1]
      clear hw1
      refine (HC.out _ HF0.out).mono ?_
      rintro e w2 ⟨rfl,hf2⟩
      have HF2:=hid (HF0.out.trans hf2)
      clear hf2
      go_wp2_with fail
      go_ret
      exact ⟨by rw [HE.out];rfl,HF2.out⟩
end Go.Proofs.Ytcdlnhfgehhkcaa
