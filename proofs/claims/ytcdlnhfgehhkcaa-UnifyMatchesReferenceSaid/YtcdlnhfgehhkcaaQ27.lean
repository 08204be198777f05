/- part of the proof -/
import Derived.Test.YtcdlnhfgehhkcaaQ24
import Derived.Test.YtcdlnhfgehhkcaaQ26
import Derived.Deep.DeepCutAuto
import Derived.Deep.Cut
set_option linter.unusedVariables false
set_option linter.unusedSimpArgs false
set_option linter.unusedSectionVars false
namespace Go.Proofs.Ytcdlnhfgehhkcaa
open Go.RowKit Go.Lib
open Un (kd nm ar size sizes over occ)
theorem rvariable_any (t : Ty) (cs : List Value) (w : World) (N : Nat → Prop) (h : TyV w N t cs) : Calls Try.prog 59 #[.agg cs.toArray] w (LookP (kd t == 9) w):=by
 obtain ⟨p,c,rfl,_⟩:=h.shape
 clear h
 go_enter Try.func59,Try.ntmps59
 go_wp2_with fail
 go_ret
 exact ⟨rfl,(Fr.refl _ _).alloc _⟩
set_option maxRecDepth 100000 in
set_option maxHeartbeats 1600000 in
theorem inside_any (N : Nat → Prop) (n : Int) : ∀ (m : Nat) (t : Ty),size t ≤ m → ∀ (cs : List Value) (w : World),TyV w N t cs → Calls Try.prog 27 #[.agg cs.toArray,.int .i64 n] w (LookP (over n t) w):=by
 intro m
 induction m with
 | zero => intro t h;exact absurd (Un.size_pos t) (by omega)
 | succ m ih =>
  intro t hm cs w h
  have IH : Hid (∀ x ∈ ar t,∀ (cs : List Value) (w : World),TyV w N x cs → Calls Try.prog 27 #[.agg cs.toArray,.int .i64 n] w (LookP (over n x) w)):=hid fun x hx => ih x (by have:=size_ar hx;omega)
  obtain ⟨R,hR⟩ : ∃ R,R = over n t:=⟨_,rfl⟩
  have hE:=Un.over_eq n t
  rw [← hR] at hE ⊢
  obtain ⟨p,c,rfl,ha⟩:=h.shape
  have hlm:=ha.len
  unfold maxLen at hlm
  have HA:=hid ha
  obtain ⟨w1,hw1⟩ : ∃ w1,w1 = w.alloc (.cells #[.int .i64 (kd t),.int .i64 (nm t),.slice p (ar t).length c] 24):=⟨_,rfl⟩
  have HF0 : Hid (Fr [] w w1):=hid (by rw [hw1];exact (Fr.refl _ _).alloc _)
  have HB0 : Hid (Blk w1 w.heap.size 24 #[.int .i64 (kd t),.int .i64 (nm t),.slice p (ar t).length c]):=hid (by rw [hw1];exact Blk.new _ _ _)
  have h0:=h
  clear h ha ih hm hR
  have HT:=hid h0
  clear h0
  by_cases h5 : kd t = 9
  ·have e1 : (kd t == 9) = true:=by simp [h5]
   have k1 : decide (kd t < 1) = false:=by simp;omega
   have k2 : decide (9 < kd t) = false:=by simp;omega
   have HE1:=hid e1
   rw [if_pos h5] at hE
   have hz : (ar t).isEmpty = (((ar t).length : Int) == 0):=by rw [Bool.eq_iff_iff];simp
   rw [hz] at hE
   have HE:=hid hE
   clear hE hz h5 IH HA
   cases e2 : decide (0 ≤ nm t) with
   | false =>
    have HR : Hid (R = false):=hid (by rw [HE.out,e2];rfl)
    go_enter Try.func27,Try.ntmps27
    go_wp2_with fail
    rw [← hw1]
    refine (rvariable_any t _ w1 N (HT.out.keep0 HF0.out)).mono ?_
    rw [HE1.out]
    rintro e w2 ⟨rfl,hf2⟩
    have HF2:=hid (HF0.out.trans hf2)
    have HB2:=hid (HB0.out.keep hf2 (by simp))
    have x0 : w2.cell? ⟨w.heap.size,0,none⟩ = some (.int .i64 (kd t)):=HB2.out.cell 0
    have x1 : w2.cell? ⟨w.heap.size,1,none⟩ = some (.int .i64 (nm t)):=HB2.out.cell 1
    have x2 : w2.cell? ⟨w.heap.size,2,none⟩ = some (.slice p (ar t).length c):=HB2.out.cell 2
    have xl : w.heap.size < w2.heap.size:=HB2.out.lt
    clear hf2 hw1
    go_wp2_with fail
    go_ret
    exact ⟨by rw [HR.out];rfl,HF2.out⟩
   | true =>
    cases e3 : decide (nm t < n) with
    | false =>
     have HR : Hid (R = false):=hid (by rw [HE.out,e2,e3];rfl)
     go_enter Try.func27,Try.ntmps27
     go_wp2_with fail
     rw [← hw1]
     refine (rvariable_any t _ w1 N (HT.out.keep0 HF0.out)).mono ?_
     rw [HE1.out]
     rintro e w2 ⟨rfl,hf2⟩
     have HF2:=hid (HF0.out.trans hf2)
     have HB2:=hid (HB0.out.keep hf2 (by simp))
     have x0 : w2.cell? ⟨w.heap.size,0,none⟩ = some (.int .i64 (kd t)):=HB2.out.cell 0
     have x1 : w2.cell? ⟨w.heap.size,1,none⟩ = some (.int .i64 (nm t)):=HB2.out.cell 1
     have x2 : w2.cell? ⟨w.heap.size,2,none⟩ = some (.slice p (ar t).length c):=HB2.out.cell 2
     have xl : w.heap.size < w2.heap.size:=HB2.out.lt
     clear hf2 hw1
     go_wp2_with fail
     go_ret
     exact ⟨by rw [HR.out];rfl,HF2.out⟩
    | true =>
     have HR : Hid (R = (((ar t).length : Int) == 0)):=hid (by rw [HE.out,e2,e3];rfl)
     go_enter Try.func27,Try.ntmps27
     go_wp2_with fail
     rw [← hw1]
     refine (rvariable_any t _ w1 N (HT.out.keep0 HF0.out)).mono ?_
     rw [HE1.out]
     rintro e w2 ⟨rfl,hf2⟩
     have HF2:=hid (HF0.out.trans hf2)
     have HB2:=hid (HB0.out.keep hf2 (by simp))
     have x0 : w2.cell? ⟨w.heap.size,0,none⟩ = some (.int .i64 (kd t)):=HB2.out.cell 0
     have x1 : w2.cell? ⟨w.heap.size,1,none⟩ = some (.int .i64 (nm t)):=HB2.out.cell 1
     have x2 : w2.cell? ⟨w.heap.size,2,none⟩ = some (.slice p (ar t).length c):=HB2.out.cell 2
     have xl : w.heap.size < w2.heap.size:=HB2.out.lt
     clear hf2 hw1
     go_wp2_with fail
     go_ret
     exact ⟨by rw [HR.out];rfl,HF2.out⟩
  ·have e1 : (kd t == 9) = false:=by simp [h5]
   have HE1:=hid e1
   rw [if_neg h5] at hE
   cases k1 : decide (kd t < 1) with
   | true =>
    have HR : Hid (R = false):=hid (by
     have : decide (1 ≤ kd t) = false:=by simp at k1 ⊢;omega
     rw [hE,this];rfl)
    clear hE IH HA
    go_enter Try.func27,Try.ntmps27
    go_wp2_with fail
    go_ret
    exact ⟨by rw [HR.out];rfl,by rw [← hw1];exact HF0.out⟩
   | false =>
   cases k2 : decide (9 < kd t) with
   | true =>
    have HR : Hid (R = false):=hid (by
     have : decide (kd t < 9) = false:=by simp at k2 ⊢;omega
     rw [hE,this];simp)
    clear hE IH HA
    go_enter Try.func27,Try.ntmps27
    go_wp2_with fail
    go_ret
    exact ⟨by rw [HR.out];rfl,by rw [← hw1];exact HF0.out⟩
   | false =>
   obtain ⟨l,hl⟩ : ∃ l,l = ar t:=⟨_,rfl⟩
   have HE : Hid (R = l.all (over n)):=hid (by
    have g1 : decide (1 ≤ kd t) = true:=by simp at k1 ⊢;omega
    have g2 : decide (kd t < 9) = true:=by simp at k1 k2 h5 ⊢;omega
    rw [hE,hl,g1,g2];rfl)
   have HT' : Hid (∀ wx,Fr [] w wx → Calls Try.prog 59 #[.agg #[.int .i64 (kd t),.int .i64 (nm t),.slice p (ar t).length c]] wx (LookP (kd t == 9) wx)):=hid (fun wx hf => rvariable_any t _ wx N (HT.out.keep0 hf))
   rw [← hl] at IH hlm HA HB0 hw1 HT' ⊢
   clear hE hl h5
   go_enter Try.func27,Try.ntmps27
   go_wp2_with fail
   rw [← hw1]
   clear hw1
   refine (HT'.out w1 HF0.out).mono ?_
   rw [HE1.out]
   rintro e wv ⟨rfl,hfv⟩
   have HFV:=hid (HF0.out.trans hfv)
   have HBV:=hid (HB0.out.keep hfv (by simp))
   clear hfv e1
   go_wp2_with fail
   go_loopw [5] (fun v wr => ∃ i : Nat,v = .int .i64 i ∧ i ≤ l.length ∧ Hid (∀ j,j < i → ∀ x,l[j]? = some x → over n x = true) ∧ Hid (Fr [] w wr) ∧ Hid (Blk wr w.heap.size 24 #[.int .i64 (kd t),.int .i64 (nm t),.slice p l.length c])) (fun v _ => l.length - (RowKit.intOf v).toNat)
   case atStart => exact ⟨0,rfl,Nat.zero_le _,hid (fun j hj => by omega),HFV,HBV⟩
   case round =>
    obtain ⟨i,rfl,hi,HG,HFR,HBR⟩:=hrel
    have hbl : w.heap.size < wr.heap.size:=HBR.out.lt
    have b2 : wr.cell? ⟨w.heap.size,2,none⟩ = some (.slice p l.length c):=HBR.out.cell 2
    by_cases hlt : i < l.length
    ·have hd2 : decide ((i : Int) < (l.length : Int)) = true:=by simp;omega
     have hd3 : decide (i < l.length) = true:=by simpa using hlt
     obtain ⟨b,o,rfl,hat⟩ : ∃ b o,p = some ⟨b,o,none⟩ ∧ TysAt w N l b o:=by
      rcases HA.out.cases with ⟨h,_⟩ | ⟨_,b,o,cap,heq,_,_,hat⟩
      ·rw [h] at hlt;simp at hlt
      ·simp only [Value.slice.injEq] at heq
       exact ⟨b,o,heq.1,hat⟩
     obtain ⟨p1,c1,k1,hb,g0,g1,g2⟩:=hat.el HFR.out (by simp) (List.getElem?_eq_getElem hlt)
     have K1:=hid k1
     obtain ⟨x,hx⟩ : ∃ x,x = l[i]:=⟨_,rfl⟩
     have HLX : Hid (l[i]? = some x):=hid (by rw [hx];exact List.getElem?_eq_getElem hlt)
     rw [← hx] at g0 g1 g2 K1
     clear k1 hat hx
     go_wp2_with fail
     refine (IH.out x (List.mem_of_getElem? HLX.out) _ _ K1.out).mono ?_
     rintro e w2 ⟨rfl,hf2⟩
     have HF2:=hid (HFR.out.trans hf2)
     have HB2:=hid (HBR.out.keep hf2 (by simp))
     clear hf2 g0 g1 g2 b2 hbl
     cases hv : over n x with
     | false =>
      have HR : Hid (R = false):=hid (by
       rw [HE.out]
       cases hq : l.all (over n) with
       | false => rfl
       | true => have h1:=(List.all_eq_true.1 hq) x (List.mem_of_getElem? HLX.out);rw [hv] at h1;cases h1)
      clear hv
      go_wp2_with fail
      go_ret
      exact ⟨by rw [HR.out];rfl,HF2.out⟩
     | true =>
      have HV:=hid hv
      clear hv
      go_wp2_with fail
      go_roundw
      case rel => exact ⟨i + 1,by go_num,by omega,hid (fun j hj y hy => by
       by_cases hj' : j < i
       ·exact HG.out j hj' y hy
       ·obtain rfl : j = i:=by omega
        rw [HLX.out] at hy
        cases hy
        exact HV.out),HF2,HB2⟩
      case measure => simp [RowKit.intOf];omega
    ·have hd2 : decide ((i : Int) < (l.length : Int)) = false:=by simp;omega
     have hd3 : decide (i < l.length) = false:=by simpa using hlt
     have hall : ∀ x ∈ l,over n x = true:=fun x hx => by
      obtain ⟨j,hj,rfl⟩:=List.getElem_of_mem hx
      exact HG.out j (by omega) _ (List.getElem?_eq_getElem hj)
     have HR : Hid (R = true):=hid (by
      rw [HE.out]
      exact List.all_eq_true.2 hall)
     clear hall
     go_wp2_with fail
     go_ret
     exact ⟨by rw [HR.out];rfl,HFR.out⟩
end Go.Proofs.Ytcdlnhfgehhkcaa
namespace Go.Proofs.Ytcdlnhfgehhkcaa
open Go.RowKit Go.Lib
open Un (kd nm ar size sizes over occ depth small zeros)
end Go.Proofs.Ytcdlnhfgehhkcaa
