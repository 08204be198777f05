/- part of the proof -/
import Derived.Test.YtcdlnhfgehhkcaaQ37
import Derived.Test.YtcdlnhfgehhkcaaQ35
import Derived.Test.YtcdlnhfgehhkcaaQ42
import Derived.Test.YtcdlnhfgehhkcaaQ43
import Derived.Test.YtcdlnhfgehhkcaaQ45
import Derived.Test.YtcdlnhfgehhkcaaQ12
import Derived.Test.YtcdlnhfgehhkcaaQ11
import Derived.Test.YtcdlnhfgehhkcaaQ04
import Derived.Test.YtcdlnhfgehhkcaaQ26
import Derived.Deep.RegionHeld3
import Derived.Test.YtcdlnhfgehhkcaaQ05
set_option linter.unusedVariables false
set_option linter.unusedSimpArgs false
set_option linter.unusedSectionVars false
namespace Go.Proofs.Ytcdlnhfgehhkcaa
open Go.RowKit Go.Lib
open Un (kd nm ar size sizes over occ Res depth Okl Ranked Rk boundedB)
set_option maxRecDepth 100000 in
set_option maxHeartbeats 1600000 in
theorem rapplyF_any (s : List Ty) (v : Value) (t : Ty) (cs : List Value) (w : World) (hv : TysV w (fun _ => True) s v) (h : TyV w (fun _ => True) t cs) (hl : s.length ≤ 900) (hz : ∀ x ∈ s,size x ≤ 100000) (hsz : size t ≤ 100000) (fb : Bool) (hfb : fb = true ↔ Un.FormedP s) (r : Ty)
  (hr : (fb && over s.length t) = true → Res s t r) (hr0 : (fb && over s.length t) = false → r = Un.zero) :
  Calls Try.prog 20 #[v,.agg cs.toArray] w (TypP (fun _ => True) r w):=by
 obtain ⟨ps,kp,rfl⟩:=hv.shape
 obtain ⟨p,c,rfl,_⟩:=h.shape
 obtain ⟨n,hn⟩ : ∃ n,n = s.length:=⟨_,rfl⟩
 obtain ⟨T0,hT0⟩ : ∃ T0,T0 = w.heap.size:=⟨_,rfl⟩
 obtain ⟨w1,hw1⟩ : ∃ w1,w1 = (w.alloc (.cells #[.int .i64 (kd t),.int .i64 (nm t),.slice p (ar t).length c] 24)).alloc (.cells #[.int .i64 0,.int .i64 0,.slice none 0 0] 24):=⟨_,rfl⟩
 have HF1 : Hid (Fr [] w w1):=hid (by rw [hw1];exact ((Fr.refl _ _).alloc _).alloc _)
 have HBT1 : Hid (Blk w1 T0 24 #[.int .i64 (kd t),.int .i64 (nm t),.slice p (ar t).length c]):=hid (by rw [hw1,hT0];exact (Blk.new _ _ _).alloc _)
 have HBR1 : Hid (Blk w1 (T0 + 1) 24 #[.int .i64 0,.int .i64 0,.slice none 0 0]):=hid (by rw [hw1,hT0];exact Blk.new_at (by simp))
 have HT0 : Hid (w.heap.size = T0):=hid hT0.symm
 have HFO : Hid (∀ wx,Fr [] w wx → Calls Try.prog 42 #[.slice ps n kp] wx (LookP fb wx)):=hid (fun wx hf => by
  have h1:=formed_any s _ wx (hv.keep0 hf) hl fb hfb
  rw [← hn] at h1
  exact h1)
 have HIN : Hid (∀ wx,Fr [] w wx → Calls Try.prog 27 #[.agg #[.int .i64 (kd t),.int .i64 (nm t),.slice p (ar t).length c],.int .i64 n] wx (LookP (over n t) wx)):=hid (fun wx hf => inside_any _ n _ t (Nat.le_refl _) _ wx (h.keep0 hf))
 have HAP : Hid (fb = true → over n t = true → ∀ wx,Fr [] w wx → Calls Try.prog 56 #[.slice ps n kp,.agg #[.int .i64 (kd t),.int .i64 (nm t),.slice p (ar t).length c]] wx (TyQ w.heap.size r wx)):=hid (fun hb ho wx hf => by
  have hok:=(hfb.1 hb).okl
  rw [hn] at ho
  have h1:=rapply_any w.heap.size s (.slice ps s.length kp) hok hz (hr (by rw [hb,ho];rfl)) ho hsz _ wx hf.size ((TysV.weak hv (fun k hk _ => hk)).keep0 hf) (h.keep0 hf)
  rw [← hn] at h1
  exact h1)
 have HR0 : Hid ((fb && over n t) = false → r = Un.zero):=hid (by rw [hn];exact hr0)
 rw [← hn]
 clear hv h hl hz hsz hfb hr hr0 hn
 cases hb : fb with
 | false =>
  rw [hb] at HFO HR0
  have HQ : Hid (r = Un.zero):=hid (HR0.out rfl)
  clear hb HAP HIN HR0
  go_enter Try.func20,Try.ntmps20
  go_wp2_with fail
  rw [← hw1]
  clear hw1 hT0
  refine (HFO.out w1 HF1.out).mono ?_
  rintro e w2 ⟨rfl,hf2⟩
  have HF2:=hid (HF1.out.trans hf2)
  have HBR2:=hid (HBR1.out.keep hf2 (by simp))
  have f0:=HBR2.out.frozen 0
  have f1:=HBR2.out.frozen 1
  have f2:=HBR2.out.frozen 2
  have r0 : w2.cell? ⟨T0 + 1,0,none⟩ = some (.int .i64 0):=HBR2.out.cell 0
  have r1 : w2.cell? ⟨T0 + 1,1,none⟩ = some (.int .i64 0):=HBR2.out.cell 1
  have r2 : w2.cell? ⟨T0 + 1,2,none⟩ = some (.slice none 0 0):=HBR2.out.cell 2
  have rl : T0 + 1 < w2.heap.size:=HBR2.out.lt
  rw [HT0.out]
  clear hf2
  go_wp2_with fail
  have hbx:=HBR2.out.set3 (.int .i64 0) (.int .i64 0) (.slice none 0 0)
  have x0:=hbx.cell 0
  have x1:=hbx.cell 1
  have x2:=hbx.cell 2
  exact bodyPost_ret (v:=.agg #[.int .i64 0,.int .i64 0,.slice none 0 0]) (by simp [results,Try.results20,go_sem,x0,x1,x2]) rfl ⟨HF2.out.set3 (b:=T0 + 1) (.inr (by have:=HT0.out;omega)) _ _ _,_,rfl,by rw [HQ.out];exact TyV.mk (TysV.nil none 0)⟩
 | true =>
  rw [hb] at HFO HR0
  have HAP2:=hid (HAP.out hb)
  clear hb HAP
  cases ho : over n t with
  | false =>
   rw [ho] at HIN HR0
   have HQ : Hid (r = Un.zero):=hid (HR0.out rfl)
   clear ho HAP2 HR0
   go_enter Try.func20,Try.ntmps20
   go_wp2_with fail
   rw [← hw1]
   clear hw1 hT0
   refine (HFO.out w1 HF1.out).mono ?_
   rintro e w2 ⟨rfl,hf2⟩
   have HF2:=hid (HF1.out.trans hf2)
   have HBT2:=hid (HBT1.out.keep hf2 (by simp))
   have HBR2:=hid (HBR1.out.keep hf2 (by simp))
   have r0 : w2.cell? ⟨T0,0,none⟩ = some (.int .i64 (kd t)):=HBT2.out.cell 0
   have r1 : w2.cell? ⟨T0,1,none⟩ = some (.int .i64 (nm t)):=HBT2.out.cell 1
   have r2 : w2.cell? ⟨T0,2,none⟩ = some (.slice p (ar t).length c):=HBT2.out.cell 2
   have rl : T0 < w2.heap.size:=HBT2.out.lt
   rw [HT0.out]
   clear hf2
   go_wp2_with fail
   refine (HIN.out w2 HF2.out).mono ?_
   rintro e w3 ⟨rfl,hf3⟩
   have HF3:=hid (HF2.out.trans hf3)
   have HBR3:=hid (HBR2.out.keep hf3 (by simp))
   clear r0 r1 r2 rl hf3
   have f0:=HBR3.out.frozen 0
   have f1:=HBR3.out.frozen 1
   have f2:=HBR3.out.frozen 2
   have r0 : w3.cell? ⟨T0 + 1,0,none⟩ = some (.int .i64 0):=HBR3.out.cell 0
   have r1 : w3.cell? ⟨T0 + 1,1,none⟩ = some (.int .i64 0):=HBR3.out.cell 1
   have r2 : w3.cell? ⟨T0 + 1,2,none⟩ = some (.slice none 0 0):=HBR3.out.cell 2
   have rl : T0 + 1 < w3.heap.size:=HBR3.out.lt
   go_wp2_with fail
   have hbx:=HBR3.out.set3 (.int .i64 0) (.int .i64 0) (.slice none 0 0)
   have x0:=hbx.cell 0
   have x1:=hbx.cell 1
   have x2:=hbx.cell 2
   exact bodyPost_ret (v:=.agg #[.int .i64 0,.int .i64 0,.slice none 0 0]) (by simp [results,Try.results20,go_sem,x0,x1,x2]) rfl ⟨HF3.out.set3 (b:=T0 + 1) (.inr (by have:=HT0.out;omega)) _ _ _,_,rfl,by rw [HQ.out];exact TyV.mk (TysV.nil none 0)⟩
  | true =>
   rw [ho] at HIN
   have HAP3:=hid (HAP2.out ho)
   clear ho HAP2 HR0
   go_enter Try.func20,Try.ntmps20
   go_wp2_with fail
   rw [← hw1]
   clear hw1 hT0
   refine (HFO.out w1 HF1.out).mono ?_
   rintro e w2 ⟨rfl,hf2⟩
   have HF2:=hid (HF1.out.trans hf2)
   have HBT2:=hid (HBT1.out.keep hf2 (by simp))
   have HBR2:=hid (HBR1.out.keep hf2 (by simp))
   have r0 : w2.cell? ⟨T0,0,none⟩ = some (.int .i64 (kd t)):=HBT2.out.cell 0
   have r1 : w2.cell? ⟨T0,1,none⟩ = some (.int .i64 (nm t)):=HBT2.out.cell 1
   have r2 : w2.cell? ⟨T0,2,none⟩ = some (.slice p (ar t).length c):=HBT2.out.cell 2
   have rl : T0 < w2.heap.size:=HBT2.out.lt
   rw [HT0.out]
   clear hf2
   go_wp2_with fail
   refine (HIN.out w2 HF2.out).mono ?_
   rintro e w3 ⟨rfl,hf3⟩
   have HF3:=hid (HF2.out.trans hf3)
   have HBT3:=hid (HBT2.out.keep hf3 (by simp))
   have HBR3:=hid (HBR2.out.keep hf3 (by simp))
   clear r0 r1 r2 rl hf3
   have r0 : w3.cell? ⟨T0,0,none⟩ = some (.int .i64 (kd t)):=HBT3.out.cell 0
   have r1 : w3.cell? ⟨T0,1,none⟩ = some (.int .i64 (nm t)):=HBT3.out.cell 1
   have r2 : w3.cell? ⟨T0,2,none⟩ = some (.slice p (ar t).length c):=HBT3.out.cell 2
   have rl : T0 < w3.heap.size:=HBT3.out.lt
   go_wp2_with fail
   refine (HAP3.out w3 HF3.out).mono ?_
   rintro e w4 ⟨hf4,ds,rfl,hty⟩
   obtain ⟨p4,c4,rfl,_⟩:=hty.shape
   have HTY : Hid (TyV w4 (fun k => k ≠ T0 + 1) r [.int .i64 (kd r),.int .i64 (nm r),.slice p4 (ar r).length c4]):=hid (TyV.weak hty (fun k hk h => by have:=HT0.out;have:=HBR3.out.lt;rcases h with h | h <;> omega))
   have HF4:=hid (HF3.out.trans hf4)
   have HBR4:=hid (HBR3.out.keep hf4 (by simp))
   clear r0 r1 r2 rl hf4 hty
   have f0:=HBR4.out.frozen 0
   have f1:=HBR4.out.frozen 1
   have f2:=HBR4.out.frozen 2
   have r0 : w4.cell? ⟨T0 + 1,0,none⟩ = some (.int .i64 0):=HBR4.out.cell 0
   have r1 : w4.cell? ⟨T0 + 1,1,none⟩ = some (.int .i64 0):=HBR4.out.cell 1
   have r2 : w4.cell? ⟨T0 + 1,2,none⟩ = some (.slice none 0 0):=HBR4.out.cell 2
   have rl : T0 + 1 < w4.heap.size:=HBR4.out.lt
   go_wp2_with fail
   have hbx:=HBR4.out.set3 (.int .i64 (kd r)) (.int .i64 (nm r)) (.slice p4 (ar r).length c4)
   have x0:=hbx.cell 0
   have x1:=hbx.cell 1
   have x2:=hbx.cell 2
   refine bodyPost_ret (v:=.agg #[.int .i64 (kd r),.int .i64 (nm r),.slice p4 (ar r).length c4]) (by simp [results,Try.results20,go_sem,x0,x1,x2]) rfl ⟨HF4.out.set3 (b:=T0 + 1) (.inr (by have:=HT0.out;omega)) _ _ _,_,rfl,?_⟩
   exact InN.mono (fun k hk hl => ⟨trivial,by simpa [World.setCell] using hl,set3_block _ _ _ hk⟩) HTY.out
open Un (kd nm ar size sizes over FormedP Okl Ranked Res)
theorem sizes_thirty : ∀ l : List Ty,(∀ t ∈ l,size t ≤ 30) → sizes l ≤ 30 * l.length:=by
 intro l
 induction l with
 | nil => intro _;simp [Un.sizes]
 | cons x l ih =>
  intro h
  rw [Un.sizes,List.length_cons]
  have h1:=h x (by simp)
  have h2:=ih (fun t ht => h t (by simp [ht]))
  omega
theorem unify_both (s : List Ty) (a b : Ty) (hs : ∀ t ∈ s,size t ≤ 30) (hl : s.length ≤ 8) (ha : size a ≤ 30) (hb : size b ≤ 30) :
  ∃ r,(∀ r',Un.RSpec s a b r' → r' = r) ∧ ∀ (v : Value) (cs ds : List Value) (wx : World),TysV wx (fun _ => True) s v → TyV wx (fun _ => True) a cs → TyV wx (fun _ => True) b ds → Calls Try.prog 11 #[v,.agg cs.toArray,.agg ds.toArray] wx (UnifyP r wx):=by
 obtain ⟨fs,fe,fa,r,wb,hw,hr,hc⟩:=Un.unifyG_total2 (s:=s) (a:=a) (b:=b) (A:=30) (by omega) (by omega) (by omega) hs ha hb
 refine ⟨r,fun r' hr' => (Un.unify_agree (by omega) (fun t ht => by have:=hs t ht;omega) hw hc hr').symm,fun v cs ds wx hv hta htb => ?_⟩
 have hsum:=sizes_thirty s hs
 have hfuel : Un.fuel s a b 30 ≤ 11000:=by
  unfold Un.fuel
  have : (s.length + sizes s + size a + size b) * (30 + 1) ≤ 308 * 31:=Nat.mul_le_mul_right _ (by omega)
  omega
 by_cases h0 : s.length = 0
 ·exact unify0_any 30 fs (Un.fuel s a b 30) fe fa (by omega) (by omega) (fun _ => True) s v a b cs ds wx hv hs (by omega) h0 (by omega) wb hw hta htb ha hb r hr
 ·exact unifyG_any 30 fs (Un.fuel s a b 30) fe fa (by omega) (by omega) (fun _ => True) s v a b cs ds wx hv hs (by omega) (by omega) (by omega) wb hw hta htb ha hb r hr
theorem apply_both (s : List Ty) (t : Ty) (hs : ∀ x ∈ s,size x ≤ 30) (hl : s.length ≤ 8) (ht : size t ≤ 30) :
  ∃ r,(∀ (v : Value) (cs : List Value) (wx : World),TysV wx (fun _ => True) s v → TyV wx (fun _ => True) t cs → Calls Try.prog 19 #[v,.agg cs.toArray] wx (TypP (fun _ => True) r wx)) ∧
   (∀ (v : Value) (cs : List Value) (wx : World),TysV wx (fun _ => True) s v → TyV wx (fun _ => True) t cs → Calls Try.prog 20 #[v,.agg cs.toArray] wx (TypP (fun _ => True) r wx)):=by
 obtain ⟨wb,hw,hwt⟩:=Un.wf_total (s:=s) (by omega) (fun t ht => by have:=hs t ht;omega)
 have hfb:=Un.wf_formed (s:=s) (by omega) (fun t ht => by have:=hs t ht;omega) hw
 obtain ⟨r,hr1,hr0⟩ : ∃ r,((wb && over s.length t) = true → Res s t r) ∧ ((wb && over s.length t) = false → r = Un.zero):=by
  cases h : (wb && over s.length t) with
  | false => exact ⟨Un.zero,(fun h => by cases h),fun _ => rfl⟩
  | true =>
   simp only [Bool.and_eq_true] at h
   have hF:=hfb.1 h.1
   obtain ⟨r,hr⟩:=Un.Res.ex hF.okl.vin hF.ranked (t:=t) (Un.vin_of_over _ _ h.2)
   exact ⟨r,fun _ => hr,fun h => by cases h⟩
 refine ⟨r,fun v cs wx hv hc => ?_,fun v cs wx hv hc => rapplyF_any s v t cs wx hv hc (by omega) (fun x hx => by have:=hs x hx;omega) (by omega) wb hfb r hr1 hr0⟩
 by_cases h0 : s = []
 ·subst h0
  have hr : Un.applyTo [] t = some r:=by
   unfold Un.applyTo
   rw [hw]
   cases wb with
   | false => simp only;rw [hr0 rfl]
   | true =>
    simp only [List.length_nil]
    by_cases ho : over ((0 : Nat) : Int) t = true
    ·rw [if_pos ho,Un.app_none t ho 11]
     have h1:=hr1 (by simpa using ho)
     have hF:=hfb.1 rfl
     obtain ⟨θ,_,hθ⟩:=Un.holds_ex hF.okl.vin hF.ranked
     rw [← hθ t r (Un.vin_of_over _ _ ho) h1,Un.ap_no t (Un.over_no t ho)]
    ·rw [if_neg ho,hr0 (by simpa using ho)]
  exact apply0_any (fun _ => True) [] v t cs wx hv rfl (by simp) (by simp) hc (by omega) r hr
 ·have hr : ∃ fe fa,Un.applyG fe fa s t = some r:=by
   unfold Un.applyG
   rw [hw]
   cases wb with
   | false => exact ⟨0,0,by rw [hr0 rfl]⟩
   | true =>
    simp only
    by_cases ho : over s.length t = true
    ·have hF:=hfb.1 rfl
     have h1:=hr1 (by simpa using ho)
     obtain ⟨fe,f,h2⟩:=Un.appG_res h1 (Un.vin_of_over _ _ ho) hF.okl.vin
     exact ⟨fe,f + 1,by rw [if_pos ho];exact h2⟩
    ·exact ⟨0,0,by rw [if_neg ho,hr0 (by simpa using ho)]⟩
  obtain ⟨fe,fa,hr⟩:=hr
  exact applyG2_any fe fa (fun _ => True) s v t cs wx hv (by cases s with | nil => exact absurd rfl h0 | cons a l => simp) (by omega) (fun t ht => by have:=hs t ht;omega) hc (by omega) r hr
open Un (kd nm ar size pars)
set_option maxRecDepth 100000 in
set_option maxHeartbeats 1600000 in
theorem match_out (N : Nat → Prop) (a b : Ty) (n : Int) (hn : n < 0 ∨ 4 < n) (cs ds : List Value) (w : World) (ha : TyV w N a cs) (hb : TyV w N b ds) :
  Calls Try.prog 13 #[.agg cs.toArray,.agg ds.toArray,.int .i64 n] w (MatchP none w):=by
 obtain ⟨p,c,rfl,_⟩:=ha.shape
 obtain ⟨p',c',rfl,_⟩:=hb.shape
 clear ha hb
 have done : ∀ o o' o2 : Obj,Fr [] w (((w.alloc o).alloc o').alloc o2):=fun o o' o2 => (((Fr.refl _ _).alloc _).alloc _).alloc _
 by_cases h : n < 0
 ·have hd1 : decide (n < 0) = true:=decide_eq_true h
  clear hn
  go_enter Try.func13,Try.ntmps13
  go_wp2_with fail
  refine bodyPost_ret (v:=.tuple #[.slice none 0 0,.bool false]) (by simp [results,Try.results13,go_sem]) rfl ?_
  unfold MatchP
  exact ⟨done _ _ _,rfl⟩
 ·have hd1 : decide (n < 0) = false:=decide_eq_false h
  have hd2 : decide (4 < n) = true:=decide_eq_true (by omega)
  clear hn
  go_enter Try.func13,Try.ntmps13
  go_wp2_with fail
  refine bodyPost_ret (v:=.tuple #[.slice none 0 0,.bool false]) (by simp [results,Try.results13,go_sem]) rfl ?_
  unfold MatchP
  exact ⟨done _ _ _,rfl⟩
namespace Un
mutual
def bare (n : Int) : Ty → Bool
 | .mk k i al => if k = 5 then (decide (0 ≤ i) && decide (i < n)) && al.isEmpty else bares n al
def bares (n : Int) : List Ty → Bool
 | [] => true
 | a :: r => bare n a && bares n r
end
mutual
def hasP (j : Int) : Ty → Bool
 | .mk k i al => (k == 5 && i == j) || hasPs j al
def hasPs (j : Int) : List Ty → Bool
 | [] => false
 | a :: r => hasP j a || hasPs j r
end
end Un
open Go.RowKit Go.Lib
open Un (kd nm ar size sizes bare bares hasP hasPs)
namespace Un
end Un
open Go.RowKit Go.Lib
open Un (kd nm ar size sizes same sames small subst bare hasP)
mutual
theorem Un.pars_len : ∀ t : Ty,(Un.pars t).length ≤ size t
 | .mk k i al => by
  rw [Un.pars,Un.size]
  have h1:=Un.parss_len al
  split
  ·simp
  ·omega
theorem Un.parss_len : ∀ l : List Ty,(Un.parss l).length ≤ sizes l
 | [] => by rw [Un.parss,Un.sizes];simp
 | a :: r => by
  rw [Un.parss,Un.sizes,List.length_append]
  have h1:=Un.pars_len a
  have h2:=Un.parss_len r
  omega
end
open Un (kd nm ar size sizes over small)
def AnsU (l : List Ty) (c : Int) (w : World) (e : Ending) (w' : World) : Prop:=
 Fr [] w w' ∧ ∃ p k,e = .returned (.tuple #[.slice p l.length k,.int .i64 c]) ∧ TysV w' (fun _ => True) l (.slice p l.length k)
def AnsM (l : List Ty) (b : Bool) (w : World) (e : Ending) (w' : World) : Prop:=
 Fr [] w w' ∧ ∃ p k,e = .returned (.tuple #[.slice p l.length k,.bool b]) ∧ TysV w' (fun _ => True) l (.slice p l.length k)
theorem unify_ans (s : List Ty) (a b : Ty) (hs : ∀ t ∈ s,size t ≤ 30) (hl : s.length ≤ 8) (ha : size a ≤ 30) (hb : size b ≤ 30) :
  ∃ l c,(∀ (v : Value) (cs ds : List Value) (wx : World),TysV wx (fun _ => True) s v → TyV wx (fun _ => True) a cs → TyV wx (fun _ => True) b ds → Calls Try.prog 11 #[v,.agg cs.toArray,.agg ds.toArray] wx (AnsU l c wx)) ∧
   (∀ (v : Value) (cs ds : List Value) (wx : World),TysV wx (fun _ => True) s v → TyV wx (fun _ => True) a cs → TyV wx (fun _ => True) b ds → Calls Try.prog 12 #[v,.agg cs.toArray,.agg ds.toArray] wx (AnsU l c wx)):=by
 obtain ⟨r,hr,hp⟩:=unify_both s a b hs hl ha hb
 refine ⟨match r with | .error _ => [] | .ok l => l,match r with | .error c => c | .ok _ => 0,fun v cs ds wx hv hta htb => ?_,fun v cs ds wx hv hta htb => ?_⟩
 ·refine (hp v cs ds wx hv hta htb).mono ?_
  rintro e w' ⟨hf,h⟩
  refine ⟨hf,?_⟩
  cases r with
  | error c => exact ⟨none,0,h,TysV.nil none 0⟩
  | ok l =>
   obtain ⟨v,rfl,h⟩:=h
   obtain ⟨p,k,rfl⟩:=h.shape
   exact ⟨p,k,rfl,h.weak (fun _ _ _ => trivial)⟩
 ·refine (runify_any s v a b cs ds wx hv hta htb (by omega) (fun x hx => by have:=hs x hx;omega) (by omega) (by omega)).mono ?_
  rintro e w' ⟨r',h1,hf,h⟩
  obtain rfl:=hr r' h1
  refine ⟨hf,?_⟩
  cases r' with
  | error c => exact ⟨none,0,h,TysV.nil none 0⟩
  | ok l =>
   obtain ⟨v,rfl,h⟩:=h
   obtain ⟨p,k,rfl⟩:=h.shape
   exact ⟨p,k,rfl,h⟩
theorem match_ans (a b : Ty) (n : Int) (ha : size a ≤ 30) (hb : size b ≤ 30) (hpar : ∀ i ∈ Un.pars a,(Lit.int .i64 i).wf = true) :
  ∃ l c,(∀ (cs ds : List Value) (wx : World),TyV wx (fun _ => True) a cs → TyV wx (fun _ => True) b ds → Calls Try.prog 13 #[.agg cs.toArray,.agg ds.toArray,.int .i64 n] wx (AnsM l c wx)) ∧
   (∀ (cs ds : List Value) (wx : World),TyV wx (fun _ => True) a cs → TyV wx (fun _ => True) b ds → Calls Try.prog 14 #[.agg cs.toArray,.agg ds.toArray,.int .i64 n] wx (AnsM l c wx)):=by
 obtain ⟨r,hp,hq⟩ : ∃ r,(∀ (cs ds : List Value) (wx : World),TyV wx (fun _ => True) a cs → TyV wx (fun _ => True) b ds → Calls Try.prog 13 #[.agg cs.toArray,.agg ds.toArray,.int .i64 n] wx (MatchP r wx)) ∧
   (∀ (cs ds : List Value) (wx : World),TyV wx (fun _ => True) a cs → TyV wx (fun _ => True) b ds → Calls Try.prog 14 #[.agg cs.toArray,.agg ds.toArray,.int .i64 n] wx (RMatP r wx)):=by
  by_cases h : n < 0 ∨ 4 < n
  ·exact ⟨none,fun cs ds wx h1 h2 => match_out _ a b n h cs ds wx h1 h2,fun cs ds wx h1 h2 => rMatch_out n h a b cs ds wx h1 h2⟩
  ·obtain ⟨m,rfl⟩ : ∃ m : Nat,n = m:=⟨n.toNat,by omega⟩
   have hpl:=Un.pars_len a
   exact ⟨Un.matched m a b,fun cs ds wx h1 h2 => match_any _ a b m (by omega) (by omega) (by omega) hpar (by omega) cs ds wx h1 h2,fun cs ds wx h1 h2 => rMatch_in m (by omega) a b cs ds wx h1 h2⟩
 refine ⟨match r with | none => [] | some l => l,match r with | none => false | some _ => true,fun cs ds wx h1 h2 => ?_,fun cs ds wx h1 h2 => ?_⟩
 ·refine (hp cs ds wx h1 h2).mono ?_
  rintro e w' ⟨hf,h⟩
  refine ⟨hf,?_⟩
  cases r with
  | none => exact ⟨none,0,h,TysV.nil none 0⟩
  | some l =>
   obtain ⟨v,rfl,h⟩:=h
   obtain ⟨p,k,rfl⟩:=h.shape
   exact ⟨p,k,rfl,h.weak (fun _ _ _ => trivial)⟩
 ·refine (hq cs ds wx h1 h2).mono ?_
  rintro e w' ⟨hf,h⟩
  refine ⟨hf,?_⟩
  cases r with
  | none => exact ⟨none,0,h,TysV.nil none 0⟩
  | some l =>
   obtain ⟨v,rfl,h⟩:=h
   obtain ⟨p,k,rfl⟩:=h.shape
   exact ⟨p,k,rfl,h⟩
theorem subst_both (s : List Ty) (t : Ty) (hs : ∀ x ∈ s,size x ≤ 30) (ht : size t ≤ 30) :
  ∃ r,(∀ (v : Value) (cs : List Value) (wx : World),TysV wx (fun _ => True) s v → TyV wx (fun _ => True) t cs → Calls Try.prog 17 #[v,.agg cs.toArray] wx (TypP (fun _ => True) r wx)) ∧
   (∀ (v : Value) (cs : List Value) (wx : World),TysV wx (fun _ => True) s v → TyV wx (fun _ => True) t cs → Calls Try.prog 18 #[v,.agg cs.toArray] wx (TypP (fun _ => True) r wx)):=by
 refine ⟨Un.subst s t,fun v cs wx hv hc => ?_,fun v cs wx hv hc => ?_⟩
 ·refine (subst_any s t v cs wx _ _ hv hc (by omega) (fun u hu => by have:=hs u hu;omega)).mono ?_
  rintro e w' ⟨hf,d,rfl,h⟩
  exact ⟨hf,d,rfl,h.weak (fun _ _ _ => trivial)⟩
 ·refine (rsubst_any wx.heap.size s v 30 t ht (by omega) cs wx (Nat.le_refl _) (hv.weak (fun _ h _ => h)) hc).mono ?_
  rintro e w' ⟨hf,d,rfl,h⟩
  exact ⟨hf,d,rfl,h.weak (fun _ _ _ => trivial)⟩
theorem same_refl_any (l : List Ty) (v v' : Value) (w : World) (h : TysV w (fun _ => True) l v) (h' : TysV w (fun _ => True) l v') : Calls Try.prog 15 #[v,v'] w (LookP true w):=by
 have h1:=rsameall_any (fun _ => True) (fun _ => True) l l w (fun a ha b hb cs ds w h h' => rsame_any _ _ (size a) a (Nat.le_refl _) b cs ds w h h') v v' h h'
 rwa [show Un.sames l l = true from Un.sames_eq.2 rfl] at h1
theorem same_one_any (t : Ty) (cs ds : List Value) (w : World) (h : TyV w (fun _ => True) t cs) (h' : TyV w (fun _ => True) t ds) : Calls Try.prog 16 #[.agg cs.toArray,.agg ds.toArray] w (LookP true w):=by
 have h1:=rsame_any _ _ (size t) t (Nat.le_refl _) t cs ds w h h'
 rwa [show Un.same t t = true from Un.same_refl t] at h1
end Go.Proofs.Ytcdlnhfgehhkcaa
