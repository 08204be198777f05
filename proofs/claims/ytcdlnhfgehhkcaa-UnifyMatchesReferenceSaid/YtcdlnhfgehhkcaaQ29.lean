/- part of the proof -/
import Derived.Test.YtcdlnhfgehhkcaaQ27
import Derived.Deep.LoopGhost
import Derived.Test.YtcdlnhfgehhkcaaQ24
set_option linter.unusedVariables false
set_option linter.unusedSimpArgs false
set_option linter.unusedSectionVars false
namespace Go.Proofs.Ytcdlnhfgehhkcaa
open Go.RowKit Go.Lib
open Un (kd nm ar size sizes over occ)
namespace Un
def rfind (s : List Ty) : Nat → Ty → Option Ty
 | 0,_ => none
 | f + 1,t => if kd t = 9 then (if 0 ≤ nm t then match s[(nm t).toNat]? with
  | none => none
  | some x => if kd x = 0 then some t else rfind s f x
  else none) else some t
theorem rfind_cases {s : List Ty} {f : Nat} {t y : Ty} (h : rfind s f t = some y) : ∃ g,f = g + 1 ∧ ((kd t ≠ 9 ∧ y = t) ∨ ∃ (n : Nat) (x : Ty),kd t = 9 ∧ nm t = n ∧ s[n]? = some x ∧ ((kd x = 0 ∧ y = t) ∨ (kd x ≠ 0 ∧ rfind s g x = some y))):=by
 cases f with
 | zero => simp [rfind] at h
 | succ g =>
  refine ⟨g,rfl,?_⟩
  rw [rfind] at h
  by_cases h9 : kd t = 9
  ·rw [if_pos h9] at h
   by_cases h0 : 0 ≤ nm t
   ·rw [if_pos h0] at h
    cases hx : s[(nm t).toNat]? with
    | none => rw [hx] at h;cases h
    | some x =>
     rw [hx] at h
     simp only at h
     refine .inr ⟨(nm t).toNat,x,h9,by omega,hx,?_⟩
     by_cases hu : kd x = 0
     ·rw [if_pos hu] at h
      exact .inl ⟨hu,(Option.some.inj h).symm⟩
     ·rw [if_neg hu] at h
      exact .inr ⟨hu,h⟩
   ·rw [if_neg h0] at h;cases h
  ·rw [if_neg h9] at h
   exact .inl ⟨h9,(Option.some.inj h).symm⟩
end Un
open Un (rfind)
set_option maxRecDepth 100000 in
set_option maxHeartbeats 3200000 in
theorem findG_any (N : Nat → Prop) (s : List Ty) (v : Value) (a y : Ty) (f : Nat) (cs : List Value) (w : World) (hv : TysV w N s v) (h : TyV w N a cs) (hy : rfind s f a = some y) :
  Calls Try.prog 60 #[v,.agg cs.toArray] w (TypP N y w):=by
 obtain ⟨p,c,rfl,_⟩:=h.shape
 obtain ⟨ps,kp,rfl⟩:=hv.shape
 have hln:=hv.len
 unfold maxLen at hln
 obtain ⟨L,hL⟩ : ∃ L,L = s.length:=⟨_,rfl⟩
 have HV:=hid hv
 rw [← hL] at hln HV ⊢
 have HL:=hid hL
 have HT:=hid h
 have HY:=hid hy
 obtain ⟨w1,hw1⟩ : ∃ w1,w1 = (w.alloc (.cells #[.int .i64 (kd a),.int .i64 (nm a),.slice p (ar a).length c] 24)).alloc (.cells #[.int .i64 0,.int .i64 0,.slice none 0 0] 24):=⟨_,rfl⟩
 have HF1 : Hid (Fr [] w w1):=hid (by rw [hw1];exact ((Fr.refl _ _).alloc _).alloc _)
 have HB0 : Hid (Blk w1 w.heap.size 24 #[.int .i64 (kd a),.int .i64 (nm a),.slice p (ar a).length c]):=hid (by rw [hw1];exact (Blk.new _ _ _).alloc _)
 have HB1 : Hid (Blk w1 (w.heap.size + 1) 24 #[.int .i64 0,.int .i64 0,.slice none 0 0]):=hid (by rw [hw1];exact Blk.new_at (by simp))
 clear hv h hy hL
 go_enter Try.func60,Try.ntmps60
 go_wp2_with fail
 rw [← hw1]
 clear hw1
 go_loopg [5] f (fun gg _ wr => ∃ (t : Ty) (p' : Option Addr) (c' : Nat),Hid (rfind s gg t = some y) ∧ Hid (Blk wr w.heap.size 24 #[.int .i64 (kd t),.int .i64 (nm t),.slice p' (ar t).length c']) ∧ Hid (TyV w N t [.int .i64 (kd t),.int .i64 (nm t),.slice p' (ar t).length c']) ∧ Hid (Blk wr (w.heap.size + 1) 24 #[.int .i64 0,.int .i64 0,.slice none 0 0]) ∧ Hid (Fr [] w wr))
 case atStart => exact ⟨a,p,c,HY,HB0,HT,HB1,HF1⟩
 case round =>
  obtain ⟨t,p',c',HQ,HBT,HTT,HBR,HFR⟩:=hrel
  obtain ⟨g1,hg,hcase⟩:=Un.rfind_cases HQ.out
  subst hg
  have s0 : wr.cell? ⟨w.heap.size,0,none⟩ = some (.int .i64 (kd t)):=HBT.out.cell 0
  have s1 : wr.cell? ⟨w.heap.size,1,none⟩ = some (.int .i64 (nm t)):=HBT.out.cell 1
  have s2 : wr.cell? ⟨w.heap.size,2,none⟩ = some (.slice p' (ar t).length c'):=HBT.out.cell 2
  have sl : w.heap.size < wr.heap.size:=HBT.out.lt
  have HCASE:=hid hcase
  clear hcase
  go_wp2_with fail
  refine (rvariable_any t _ wr N (HTT.out.keep0 HFR.out)).mono ?_
  rintro e w2 ⟨rfl,hf2⟩
  have HF2:=hid (HFR.out.trans hf2)
  have HBT2:=hid (HBT.out.keep hf2 (by simp))
  have HR2:=hid (HBR.out.keep hf2 (by simp))
  clear hf2 s0 s1 s2 sl
  have s0 : w2.cell? ⟨w.heap.size,0,none⟩ = some (.int .i64 (kd t)):=HBT2.out.cell 0
  have s1 : w2.cell? ⟨w.heap.size,1,none⟩ = some (.int .i64 (nm t)):=HBT2.out.cell 1
  have s2 : w2.cell? ⟨w.heap.size,2,none⟩ = some (.slice p' (ar t).length c'):=HBT2.out.cell 2
  have sl : w.heap.size < w2.heap.size:=HBT2.out.lt
  have f0:=HBT2.out.frozen 0
  have f1:=HBT2.out.frozen 1
  have f2:=HBT2.out.frozen 2
  have r0 : w2.cell? ⟨w.heap.size + 1,0,none⟩ = some (.int .i64 0):=HR2.out.cell 0
  have r1 : w2.cell? ⟨w.heap.size + 1,1,none⟩ = some (.int .i64 0):=HR2.out.cell 1
  have r2 : w2.cell? ⟨w.heap.size + 1,2,none⟩ = some (.slice none 0 0):=HR2.out.cell 2
  have t0:=HR2.out.frozen 0
  have t1:=HR2.out.frozen 1
  have t2:=HR2.out.frozen 2
  have hz1 : w.heap.size + 1 < w2.heap.size:=HR2.out.lt
  rcases HCASE.out with ⟨h9,hyt⟩ | ⟨n,x,h9,hn,hx,hcase2⟩
  ·have e1 : (kd t == 9) = false:=by simp [h9]
   have HYT:=hid hyt
   rw [e1]
   clear h9 e1 hyt
   go_wp2_with fail
   have hbx:=HR2.out.set3 (.int .i64 (kd t)) (.int .i64 (nm t)) (.slice p' (ar t).length c')
   have d0:=hbx.cell 0
   have d1:=hbx.cell 1
   have d2:=hbx.cell 2
   have hf3:=HF2.out.set3 (b:=w.heap.size + 1) (.inr (by omega)) (.int .i64 (kd t)) (.int .i64 (nm t)) (.slice p' (ar t).length c')
   exact bodyPost_ret (v:=.agg #[.int .i64 (kd t),.int .i64 (nm t),.slice p' (ar t).length c']) (by simp [results,Try.results60,go_sem,d0,d1,d2]) rfl ⟨hf3,_,rfl,by rw [HYT.out];exact HTT.out.keep0 hf3⟩
  ·have hnl : n < L:=by rw [HL.out];exact (List.getElem?_eq_some_iff.1 hx).1
   have e4 : decide (n < L) = true:=by simpa using hnl
   have e5 : decide ((n : Int) < (L : Int)) = true:=by simp;omega
   have e6 : (n : Int) < (L : Int):=by omega
   have e1 : (kd t == 9) = true:=by simp [h9]
   obtain ⟨b,o,rfl,hat⟩ : ∃ b o,ps = some ⟨b,o,none⟩ ∧ TysAt w N s b o:=by
    rcases HV.out.cases with ⟨h1,_⟩ | ⟨_,b,o,cap,heq,_,_,hat⟩
    ·rw [h1] at hx;simp at hx
    ·simp only [Value.slice.injEq] at heq
     exact ⟨b,o,heq.1,hat⟩
   obtain ⟨p1,c1,k1,hb,g0,g1',g2⟩:=hat.el HF2.out (by simp) hx
   obtain ⟨p2,c2,k2,hb2,_,_,e2⟩:=hat.el (Fr.refl [] w) (by simp) hx
   have e3:=g2
   rw [HF2.out.cell hb2 (by simp),e2] at e3
   simp only [Option.some.injEq,Value.slice.injEq,true_and] at e3
   obtain ⟨rfl,rfl⟩:=e3
   have K2:=hid k2
   have HC2:=hid hcase2
   rw [h9,hn] at HTT
   rw [e1]
   rw [h9] at s0
   rw [hn] at s1
   have H9:=hid h9
   have HN:=hid hn
   clear hat hx k1 k2 e2 hb2 hcase2 h9 hn e1
   rcases HC2.out with ⟨hk,hyt⟩ | ⟨hk,hyx⟩
   ·have HYT:=hid hyt
    have ek : (kd x != 0) = false:=by simp [hk]
    clear hk hyt
    go_wp2_with fail
    have hbx:=HR2.out.set3 (.int .i64 9) (.int .i64 n) (.slice p' (ar t).length c')
    have d0:=hbx.cell 0
    have d1:=hbx.cell 1
    have d2:=hbx.cell 2
    have hf3:=HF2.out.set3 (b:=w.heap.size + 1) (.inr (by omega)) (.int .i64 9) (.int .i64 n) (.slice p' (ar t).length c')
    exact bodyPost_ret (v:=.agg #[.int .i64 9,.int .i64 n,.slice p' (ar t).length c']) (by simp [results,Try.results60,go_sem,d0,d1,d2]) rfl ⟨hf3,_,rfl,by rw [HYT.out];exact HTT.out.keep0 hf3⟩
   ·have HYX:=hid hyx
    have ek : (kd x != 0) = true:=by simp [hk]
    clear hk hyx
    go_wp2_with fail
    go_roundg g1
    case measure => omega
    case rel => exact ⟨x,p2,c2,HYX,hid (HBT2.out.set3 _ _ _),K2,hid (HR2.out.keep ((Fr.refl [w.heap.size] _).set3 (b:=w.heap.size) (.inl (by simp)) _ _ _) (by simp)),hid (HF2.out.set3 (.inr (Nat.le_refl _)) _ _ _)⟩
open Go.RowKit Go.Lib
open Un (kd nm ar)
namespace Un
def asn (r : List Ty) (i : Int) : Ty:=if 0 ≤ i then (match r[i.toNat]? with
 | some x => if unsolved x = true then var i else x
 | none => var i) else var i
structure Canon (n : Nat) (r : List Ty) : Prop where
 len : r.length = n
 el : ∀ (j : Nat) (x : Ty),r[j]? = some x → x = zero ∨ (unsolved x = false ∧ vin n x = true ∧ (∀ v : Int,occ v x = true → ∃ (m : Nat) (y : Ty),v = m ∧ r[m]? = some y ∧ unsolved y = true) ∧ (kd x = 9 → nm x < j))
theorem asn_some {r : List Ty} {j : Nat} {x : Ty} (h : r[j]? = some x) : asn r j = if unsolved x = true then var j else x:=by
 unfold asn
 rw [if_pos (by omega),Int.toNat_natCast,h]
theorem ap_id {θ : Int → Ty} {n : Int} : ∀ t,vin n t = true → (∀ v : Int,occ v t = true → θ v = var v) → ap θ t = t:=by
 refine Un.Ty.ind fun k i al ih => ?_
 intro hv ho
 by_cases h9 : k = 9
 ·have h:=vin_var hv (show kd (Ty.mk k i al) = 9 from h9)
  rw [ap_eq,if_pos (show kd (Ty.mk k i al) = 9 from h9),ho (nm (Ty.mk k i al)) (occ_self h9)]
  exact (ty_var (t:=Ty.mk k i al) h9 h.2.2).symm
 ·rw [vin_mk h9,List.all_eq_true] at hv
  rw [ap_mk h9]
  have h1:=List.map_congr_left (f:=ap θ) (g:=id) (l:=al) (fun a ha => ih a ha (hv a ha) (fun v hv' => ho v (by rw [occ_mk h9,List.any_eq_true];exact ⟨a,ha,hv'⟩)))
  rw [h1,List.map_id]
theorem Canon.uns {n : Nat} {r : List Ty} {v : Int} {m : Nat} {y : Ty} (hv : v = m) (hy : r[m]? = some y) (hu : unsolved y = true) : asn r v = var v:=by
 subst hv
 rw [asn_some hy,if_pos hu]
theorem Canon.holds {n : Nat} {r : List Ty} (h : Canon n r) : Holds (asn r) 0 r:=by
 intro j x hx
 rcases h.el j x hx with rfl | ⟨hu,hv,ho,_⟩
 ·exact .inl rfl
 ·refine .inr ?_
  rw [Nat.zero_add,asn_some hx,if_neg (by simp [hu])]
  refine ap_id x hv fun v hv' => ?_
  obtain ⟨m,y,h1,h2,h3⟩:=ho v hv'
  exact Canon.uns (n:=n) h1 h2 h3
theorem Canon.ap {n : Nat} {r : List Ty} (h : Canon n r) {θ : Int → Ty} (hθ : Holds θ 0 r) (i : Int) : Un.ap θ (asn r i) = θ i:=by
 unfold asn
 by_cases h0 : 0 ≤ i
 ·rw [if_pos h0]
  cases hx : r[i.toNat]? with
  | none => exact ap_var θ i
  | some x =>
   simp only
   by_cases hu : unsolved x = true
   ·rw [if_pos hu];exact ap_var θ i
   ·rw [if_neg hu]
    rcases hθ _ _ hx with h1 | h1
    ·exact absurd h1 hu
    ·rw [h1,Nat.zero_add,Int.toNat_of_nonneg h0]
 ·rw [if_neg h0];exact ap_var θ i
theorem ap_kd {θ : Int → Ty} {t : Ty} (h : kd (Un.ap θ t) = 9) : kd t = 9:=by
 by_cases h9 : kd t = 9
 ·exact h9
 ·rw [ap_eq,if_neg h9] at h
  exact absurd h h9
theorem Canon.end {n : Nat} {r : List Ty} (h : Canon n r) {j : Nat} (hj : j < n) (h9 : kd (asn r j) = 9) : ∃ m : Nat,m ≤ j ∧ asn r j = var m ∧ r[m]? = some zero:=by
 obtain ⟨x,hx⟩ : ∃ x,r[j]? = some x:=⟨_,List.getElem?_eq_getElem (by rw [h.len];exact hj)⟩
 rw [asn_some hx] at h9 ⊢
 rcases h.el j x hx with rfl | ⟨hu,hv,ho,hm⟩
 ·exact ⟨j,Nat.le_refl _,by rw [if_pos (show unsolved zero = true from rfl)],hx⟩
 ·rw [if_neg (by simp [hu])] at h9 ⊢
  have hs:=ho (nm x) (occ_self h9)
  obtain ⟨m,y,h1,h2,h3⟩:=hs
  have h4:=hm h9
  refine ⟨m,by omega,?_,?_⟩
  ·rw [ty_var h9 (vin_var hv h9).2.2,h1]
  ·rcases h.el m y h2 with rfl | ⟨hu',_⟩
   ·exact h2
   ·rw [h3] at hu';cases hu'
theorem Canon.unique {n : Nat} {r r' : List Ty} (h : Canon n r) (h' : Canon n r') (h1 : Holds (asn r) 0 r') (h2 : Holds (asn r') 0 r) : r = r':=by
 have key : ∀ {s s' : List Ty},Canon n s → Canon n s' → Holds (asn s) 0 s' → Holds (asn s') 0 s → ∀ m : Nat,s[m]? = some zero → s'[m]? = some zero:=by
  intro s s' c c' k1 k2 m hm
  have hml : m < n:=by rw [← c.len];exact (List.getElem?_eq_some_iff.1 hm).1
  have e1 : asn s m = var m:=by rw [asn_some hm,if_pos (show unsolved zero = true from rfl)]
  have e2:=c'.ap k1 (m : Int)
  have h9 : kd (asn s' m) = 9:=ap_kd (θ:=asn s) (by rw [e2,e1];rfl)
  obtain ⟨m',hle,e3,hz⟩:=c'.end hml h9
  rw [e3,ap_var,e1] at e2
  have h9' : kd (asn s m') = 9:=by rw [e2];rfl
  obtain ⟨m2,hle2,e4,_⟩:=c.end (by omega) h9'
  rw [e4] at e2
  have e5 : (m2 : Int) = m:=by injection e2
  have : m' = m:=by omega
  subst this
  exact hz
 have fw:=key h h' h1 h2
 have bw:=key h' h h2 h1
 refine List.ext_getElem? fun j => ?_
 by_cases hj : j < n
 ·obtain ⟨x,hx⟩ : ∃ x,r[j]? = some x:=⟨_,List.getElem?_eq_getElem (by rw [h.len];exact hj)⟩
  obtain ⟨x',hx'⟩ : ∃ x,r'[j]? = some x:=⟨_,List.getElem?_eq_getElem (by rw [h'.len];exact hj)⟩
  rw [hx,hx']
  rcases h.el j x hx with rfl | ⟨hu,hv,ho,_⟩
  ·rw [fw j hx] at hx';exact hx'
  ·rcases h'.el j x' hx' with rfl | ⟨hu',_⟩
   ·rw [bw j hx'] at hx;injection hx with hx;subst hx;cases hu
   ·have e:=h.ap h2 (j : Int)
    rw [asn_some hx,if_neg (by simp [hu]),asn_some hx',if_neg (by simp [hu'])] at e
    rw [← e]
    refine congrArg some (ap_id x hv fun v hv' => ?_).symm
    obtain ⟨m,y,k1,k2,k3⟩:=ho v hv'
    rcases h.el m y k2 with rfl | ⟨hu2,_⟩
    ·exact Canon.uns (n:=n) k1 (fw m k2) rfl
    ·rw [k3] at hu2;cases hu2
 ·rw [List.getElem?_eq_none (by rw [h.len];omega),List.getElem?_eq_none (by rw [h'.len];omega)]
end Un
open Go.RowKit Go.Lib
open Un (kd nm ar)
namespace Un
def Okl (s : List Ty) : Prop:=∀ x ∈ s,x = zero ∨ over s.length x = true
theorem over_kd {n : Int} {t : Ty} (h : over n t = true) : kd t ≠ 0:=by
 rw [over_eq] at h
 by_cases h9 : kd t = 9
 ·omega
 ·rw [if_neg h9] at h
  simp only [Bool.and_eq_true,decide_eq_true_eq] at h
  omega
theorem over_uns {n : Int} {t : Ty} (h : over n t = true) : unsolved t = false:=by unfold unsolved;simp [over_kd h]
theorem over_args {n : Int} {t : Ty} (h : over n t = true) (h9 : kd t ≠ 9) : ∀ a ∈ ar t,over n a = true:=by
 rw [over_eq,if_neg h9] at h
 simp only [Bool.and_eq_true,List.all_eq_true] at h
 exact h.2
theorem Okl.solved {s : List Ty} (h : Okl s) {m : Nat} {x : Ty} (hx : s[m]? = some x) (hk : kd x ≠ 0) : unsolved x = false ∧ over s.length x = true:=by
 rcases h x (List.mem_of_getElem? hx) with rfl | hv
 ·exact absurd rfl hk
 ·exact ⟨by unfold unsolved;simp [hk],hv⟩
theorem rfind_spec {s : List Ty} (hs : Okl s) : ∀ {f : Nat} {t y : Ty},rfind s f t = some y → over s.length t = true → over s.length y = true ∧ (kd y = 9 → ∃ m : Nat,y = var m ∧ s[m]? = some zero) ∧ ∀ θ,Holds θ 0 s → ap θ y = ap θ t:=by
 intro f
 induction f with
 | zero => intro t y h;simp [rfind] at h
 | succ g ih =>
  intro t y h hv
  obtain ⟨g',hg,hc⟩:=rfind_cases h
  have : g' = g:=by omega
  subst this
  rcases hc with ⟨h9,rfl⟩ | ⟨n,x,h9,hn,hx,hc⟩
  ·exact ⟨hv,fun h => absurd h h9,fun _ _ => rfl⟩
  ·have ht:=ty_var h9 (vin_var (vin_of_over _ _ hv) h9).2.2
   rcases hc with ⟨hk,rfl⟩ | ⟨hk,hy⟩
   ·refine ⟨hv,fun _ => ⟨n,by rw [ht,hn],?_⟩,fun _ _ => rfl⟩
    rcases hs x (List.mem_of_getElem? hx) with rfl | h0
    ·exact hx
    ·exact absurd hk (over_kd h0)
   ·have hx':=hs.solved hx hk
    obtain ⟨a1,a2,a3⟩:=ih hy hx'.2
    refine ⟨a1,a2,fun θ hθ => ?_⟩
    rw [a3 θ hθ,ht,hn,ap_var]
    rcases hθ n x hx with h1 | h1
    ·rw [hx'.1] at h1;cases h1
    ·rw [h1,Nat.zero_add]
theorem holds_set {s : List Ty} {m : Nat} {t : Ty} (hm : s[m]? = some zero) (hu : unsolved t = false) (θ : Int → Ty) : Holds θ 0 (s.set m t) ↔ Holds θ 0 s ∧ ap θ t = θ m:=by
 have hml:=(List.getElem?_eq_some_iff.1 hm).1
 constructor
 ·intro h
  refine ⟨fun j x hx => ?_,?_⟩
  ·by_cases hj : m = j
   ·subst hj
    rw [hm] at hx
    exact .inl (by injection hx with hx;rw [← hx];rfl)
   ·exact h j x (by rw [List.getElem?_set_ne hj];exact hx)
  ·rcases h m t (by rw [List.getElem?_set_self hml]) with h1 | h1
   ·rw [hu] at h1;cases h1
   ·rw [h1,Nat.zero_add]
 ·rintro ⟨h,ht⟩ j x hx
  by_cases hj : m = j
  ·subst hj
   rw [List.getElem?_set_self hml] at hx
   injection hx with hx
   subst hx
   exact .inr (by rw [ht,Nat.zero_add])
  ·exact h j x (by rw [List.getElem?_set_ne hj] at hx;exact hx)
theorem okl_set {s : List Ty} (h : Okl s) {m : Nat} {t : Ty} (hv : over s.length t = true) : Okl (s.set m t):=by
 intro x hx
 rw [List.length_set]
 rcases List.mem_or_eq_of_mem_set hx with h1 | rfl
 ·exact h x h1
 ·exact .inr hv
inductive RSol : List Ty → List (Ty × Ty) → Option (List Ty) → Prop
 | nil (s) : RSol s [] (some s)
 | same (s a b x y ps r f) (hx : rfind s f a = some x) (hy : rfind s f b = some y) (h9 : kd x = 9) (k9 : kd y = 9) (he : nm x = nm y) (h : RSol s ps r) : RSol s ((a,b) :: ps) r
 | lt (s a b x y ps r f) (hx : rfind s f a = some x) (hy : rfind s f b = some y) (h9 : kd x = 9) (k9 : kd y = 9) (he : nm x < nm y) (h : RSol (s.set (nm y).toNat x) ps r) : RSol s ((a,b) :: ps) r
 | gt (s a b x y ps r f) (hx : rfind s f a = some x) (hy : rfind s f b = some y) (h9 : kd x = 9) (k9 : kd y = 9) (he : nm y < nm x) (h : RSol (s.set (nm x).toNat y) ps r) : RSol s ((a,b) :: ps) r
 | occL (s a b x y z ps f) (hx : rfind s f a = some x) (hy : rfind s f b = some y) (h9 : kd x = 9) (k9 : kd y ≠ 9) (hz : Res s y z) (ho : occ (nm x) z = true) : RSol s ((a,b) :: ps) none
 | bindL (s a b x y z ps r f) (hx : rfind s f a = some x) (hy : rfind s f b = some y) (h9 : kd x = 9) (k9 : kd y ≠ 9) (hz : Res s y z) (ho : occ (nm x) z = false) (h : RSol (s.set (nm x).toNat y) ps r) : RSol s ((a,b) :: ps) r
 | occR (s a b x y z ps f) (hx : rfind s f a = some x) (hy : rfind s f b = some y) (h9 : kd x ≠ 9) (k9 : kd y = 9) (hz : Res s x z) (ho : occ (nm y) z = true) : RSol s ((a,b) :: ps) none
 | bindR (s a b x y z ps r f) (hx : rfind s f a = some x) (hy : rfind s f b = some y) (h9 : kd x ≠ 9) (k9 : kd y = 9) (hz : Res s x z) (ho : occ (nm y) z = false) (h : RSol (s.set (nm y).toNat x) ps r) : RSol s ((a,b) :: ps) r
 | clash (s a b x y ps f) (hx : rfind s f a = some x) (hy : rfind s f b = some y) (h9 : kd x ≠ 9) (k9 : kd y ≠ 9) (he : ¬ (kd x = kd y ∧ nm x = nm y ∧ (ar x).length = (ar y).length)) : RSol s ((a,b) :: ps) none
 | argsF (s a b x y ps f) (hx : rfind s f a = some x) (hy : rfind s f b = some y) (h9 : kd x ≠ 9) (k9 : kd y ≠ 9) (he : kd x = kd y ∧ nm x = nm y ∧ (ar x).length = (ar y).length) (h : RSol s ((ar x).zip (ar y)) none) : RSol s ((a,b) :: ps) none
 | args (s a b x y s' ps r f) (hx : rfind s f a = some x) (hy : rfind s f b = some y) (h9 : kd x ≠ 9) (k9 : kd y ≠ 9) (he : kd x = kd y ∧ nm x = nm y ∧ (ar x).length = (ar y).length) (h : RSol s ((ar x).zip (ar y)) (some s')) (h' : RSol s' ps r) : RSol s ((a,b) :: ps) r
def Eqs (θ : Int → Ty) (ps : List (Ty × Ty)) : Prop:=∀ p ∈ ps,ap θ p.1 = ap θ p.2
theorem Eqs.cons {θ : Int → Ty} {a b : Ty} {ps : List (Ty × Ty)} : Eqs θ ((a,b) :: ps) ↔ ap θ a = ap θ b ∧ Eqs θ ps:=by
 unfold Eqs;simp
theorem Eqs.zip {θ : Int → Ty} : ∀ {l m : List Ty},l.length = m.length → (Eqs θ (l.zip m) ↔ l.map (ap θ) = m.map (ap θ))
 | [],[],_ => by simp [Eqs]
 | [],_ :: _,h => by simp at h
 | _ :: _,[],h => by simp at h
 | x :: l,y :: m,h => by
  rw [List.zip_cons_cons,Eqs.cons,Eqs.zip (by simpa using h)]
  simp
def SolR2 (s : List Ty) (ps : List (Ty × Ty)) : Option (List Ty) → Prop
 | none => ∀ θ,Holds θ 0 s → ¬ Eqs θ ps
 | some s' => Okl s' ∧ s'.length = s.length ∧ ∀ θ,Holds θ 0 s' ↔ (Holds θ 0 s ∧ Eqs θ ps)
theorem SolR2.bind {s : List Ty} {m : Nat} {t a b : Ty} {ps : List (Ty × Ty)} {r : Option (List Ty)} (hm : s[m]? = some zero) (hu : unsolved t = false) (heq : ∀ θ,Holds θ 0 s → (ap θ a = ap θ b ↔ ap θ t = θ m)) (h : SolR2 (s.set m t) ps r) : SolR2 s ((a,b) :: ps) r:=by
 cases r with
 | none =>
  intro θ hθ he
  rw [Eqs.cons] at he
  exact h θ ((holds_set hm hu θ).2 ⟨hθ,(heq θ hθ).1 he.1⟩) he.2
 | some s' =>
  refine ⟨h.1,by rw [h.2.1,List.length_set],fun θ => ?_⟩
  rw [h.2.2 θ,holds_set hm hu,Eqs.cons]
  exact ⟨fun ⟨⟨h1,h2⟩,h3⟩ => ⟨h1,(heq θ h1).2 h2,h3⟩,fun ⟨h1,h2,h3⟩ => ⟨⟨h1,(heq θ h1).1 h2⟩,h3⟩⟩
theorem SolR2.skip {s : List Ty} {a b : Ty} {ps : List (Ty × Ty)} {r : Option (List Ty)} (heq : ∀ θ,Holds θ 0 s → ap θ a = ap θ b) (h : SolR2 s ps r) : SolR2 s ((a,b) :: ps) r:=by
 cases r with
 | none =>
  intro θ hθ he
  rw [Eqs.cons] at he
  exact h θ hθ he.2
 | some s' =>
  refine ⟨h.1,h.2.1,fun θ => ?_⟩
  rw [h.2.2 θ,Eqs.cons]
  exact ⟨fun ⟨h1,h2⟩ => ⟨h1,heq θ h1,h2⟩,fun ⟨h1,_,h2⟩ => ⟨h1,h2⟩⟩
theorem occ_no {θ : Int → Ty} {s : List Ty} {x y z : Ty} (hθ : Holds θ 0 s) (hx : kd x = 9) (hy : kd y ≠ 9) (hz : Res s y z) (ho : occ (nm x) z = true) : ap θ x ≠ ap θ y:=by
 intro he
 have h1:=hz.ap hθ
 have hz9 : kd z ≠ 9:=by
  cases hz with
  | uns t n x h9 => exact absurd h9 hy
  | sol t n x r h9 => exact absurd h9 hy
  | str k i al rs h9 => exact h9
 have h2:=(size_occ (θ:=θ) z ho).2 hz9
 rw [h1,← he,ap_eq θ x,if_pos hx] at h2
 omega
theorem rsol_spec {s : List Ty} {ps : List (Ty × Ty)} {r : Option (List Ty)} (h : RSol s ps r) : Okl s → (∀ p ∈ ps,over s.length p.1 = true ∧ over s.length p.2 = true) → SolR2 s ps r:=by
 have rest : ∀ {s : List Ty} {a b : Ty} {ps : List (Ty × Ty)},(∀ p ∈ (a,b) :: ps,over s.length p.1 = true ∧ over s.length p.2 = true) → (over s.length a = true ∧ over s.length b = true) ∧ ∀ p ∈ ps,over s.length p.1 = true ∧ over s.length p.2 = true:=fun hp => ⟨hp _ (List.mem_cons_self ..),fun p h => hp p (List.mem_cons_of_mem _ h)⟩
 induction h with
 | nil s => intro hs _;exact ⟨hs,rfl,fun θ => by simp [Eqs]⟩
 | same s a b x y ps r f hx hy h9 k9 he h ih =>
  intro hs hp
  obtain ⟨⟨va,vb⟩,hp'⟩:=rest hp
  obtain ⟨vx,ux,ex⟩:=rfind_spec hs hx va
  obtain ⟨vy,uy,ey⟩:=rfind_spec hs hy vb
  refine (ih hs hp').skip fun θ hθ => ?_
  rw [← ex θ hθ,← ey θ hθ,ap_eq,if_pos h9,ap_eq θ y,if_pos k9,he]
 | lt s a b x y ps r f hx hy h9 k9 he h ih =>
  intro hs hp
  obtain ⟨⟨va,vb⟩,hp'⟩:=rest hp
  obtain ⟨vx,ux,ex⟩:=rfind_spec hs hx va
  obtain ⟨vy,uy,ey⟩:=rfind_spec hs hy vb
  obtain ⟨m,rfl,hm⟩:=uy k9
  refine SolR2.bind (t:=x) (m:=m) hm (by unfold unsolved;simp [h9]) (fun θ hθ => by rw [← ex θ hθ,← ey θ hθ,ap_var]) ?_
  exact ih (okl_set hs vx) (fun p hp => by rw [List.length_set];exact hp' p hp)
 | gt s a b x y ps r f hx hy h9 k9 he h ih =>
  intro hs hp
  obtain ⟨⟨va,vb⟩,hp'⟩:=rest hp
  obtain ⟨vx,ux,ex⟩:=rfind_spec hs hx va
  obtain ⟨vy,uy,ey⟩:=rfind_spec hs hy vb
  obtain ⟨m,rfl,hm⟩:=ux h9
  refine SolR2.bind (t:=y) (m:=m) hm (by unfold unsolved;simp [k9]) (fun θ hθ => by rw [← ex θ hθ,← ey θ hθ,ap_var];exact eq_comm) ?_
  exact ih (okl_set hs vy) (fun p hp => by rw [List.length_set];exact hp' p hp)
 | occL s a b x y z ps f hx hy h9 k9 hz ho =>
  intro hs hp θ hθ he
  obtain ⟨⟨va,vb⟩,hp'⟩:=rest hp
  obtain ⟨vx,ux,ex⟩:=rfind_spec hs hx va
  obtain ⟨vy,uy,ey⟩:=rfind_spec hs hy vb
  rw [Eqs.cons,← ex θ hθ,← ey θ hθ] at he
  exact occ_no hθ h9 k9 hz ho he.1
 | bindL s a b x y z ps r f hx hy h9 k9 hz ho h ih =>
  intro hs hp
  obtain ⟨⟨va,vb⟩,hp'⟩:=rest hp
  obtain ⟨vx,ux,ex⟩:=rfind_spec hs hx va
  obtain ⟨vy,uy,ey⟩:=rfind_spec hs hy vb
  obtain ⟨m,rfl,hm⟩:=ux h9
  refine SolR2.bind (t:=y) (m:=m) hm (over_uns vy) (fun θ hθ => by rw [← ex θ hθ,← ey θ hθ,ap_var];exact eq_comm) ?_
  exact ih (okl_set hs vy) (fun p hp => by rw [List.length_set];exact hp' p hp)
 | occR s a b x y z ps f hx hy h9 k9 hz ho =>
  intro hs hp θ hθ he
  obtain ⟨⟨va,vb⟩,hp'⟩:=rest hp
  obtain ⟨vx,ux,ex⟩:=rfind_spec hs hx va
  obtain ⟨vy,uy,ey⟩:=rfind_spec hs hy vb
  rw [Eqs.cons,← ex θ hθ,← ey θ hθ] at he
  exact occ_no hθ k9 h9 hz ho he.1.symm
 | bindR s a b x y z ps r f hx hy h9 k9 hz ho h ih =>
  intro hs hp
  obtain ⟨⟨va,vb⟩,hp'⟩:=rest hp
  obtain ⟨vx,ux,ex⟩:=rfind_spec hs hx va
  obtain ⟨vy,uy,ey⟩:=rfind_spec hs hy vb
  obtain ⟨m,rfl,hm⟩:=uy k9
  refine SolR2.bind (t:=x) (m:=m) hm (over_uns vx) (fun θ hθ => by rw [← ex θ hθ,← ey θ hθ,ap_var]) ?_
  exact ih (okl_set hs vx) (fun p hp => by rw [List.length_set];exact hp' p hp)
 | clash s a b x y ps f hx hy h9 k9 hne =>
  intro hs hp θ hθ he
  obtain ⟨⟨va,vb⟩,hp'⟩:=rest hp
  obtain ⟨vx,ux,ex⟩:=rfind_spec hs hx va
  obtain ⟨vy,uy,ey⟩:=rfind_spec hs hy vb
  rw [Eqs.cons,← ex θ hθ,← ey θ hθ,ap_head h9 k9] at he
  refine hne ⟨he.1.1,he.1.2.1,?_⟩
  have:=congrArg List.length he.1.2.2
  simpa using this
 | argsF s a b x y ps f hx hy h9 k9 hh h ih =>
  intro hs hp
  obtain ⟨⟨va,vb⟩,hp'⟩:=rest hp
  obtain ⟨vx,ux,ex⟩:=rfind_spec hs hx va
  obtain ⟨vy,uy,ey⟩:=rfind_spec hs hy vb
  have hz : ∀ p ∈ (ar x).zip (ar y),over s.length p.1 = true ∧ over s.length p.2 = true:=fun p hp => ⟨over_args vx h9 _ (List.of_mem_zip hp).1,over_args vy k9 _ (List.of_mem_zip hp).2⟩
  have heq : ∀ θ,Holds θ 0 s → (ap θ a = ap θ b ↔ Eqs θ ((ar x).zip (ar y))):=fun θ hθ => by
   rw [← ex θ hθ,← ey θ hθ,ap_head h9 k9,Eqs.zip hh.2.2]
   exact ⟨fun h => h.2.2,fun h => ⟨hh.1,hh.2.1,h⟩⟩
  have h1:=ih hs hz
  intro θ hθ he
  rw [Eqs.cons] at he
  exact h1 θ hθ ((heq θ hθ).1 he.1)
 | args s a b x y s' ps r f hx hy h9 k9 hh h h' ih ih' =>
  intro hs hp
  obtain ⟨⟨va,vb⟩,hp'⟩:=rest hp
  obtain ⟨vx,ux,ex⟩:=rfind_spec hs hx va
  obtain ⟨vy,uy,ey⟩:=rfind_spec hs hy vb
  have hz : ∀ p ∈ (ar x).zip (ar y),over s.length p.1 = true ∧ over s.length p.2 = true:=fun p hp => ⟨over_args vx h9 _ (List.of_mem_zip hp).1,over_args vy k9 _ (List.of_mem_zip hp).2⟩
  have heq : ∀ θ,Holds θ 0 s → (ap θ a = ap θ b ↔ Eqs θ ((ar x).zip (ar y))):=fun θ hθ => by
   rw [← ex θ hθ,← ey θ hθ,ap_head h9 k9,Eqs.zip hh.2.2]
   exact ⟨fun h => h.2.2,fun h => ⟨hh.1,hh.2.1,h⟩⟩
  have h1:=ih hs hz
  have h2:=ih' h1.1 (fun p hp => by rw [h1.2.1];exact hp' p hp)
  cases r with
  | none =>
   intro θ hθ he
   rw [Eqs.cons] at he
   exact h2 θ ((h1.2.2 θ).2 ⟨hθ,(heq θ hθ).1 he.1⟩) he.2
  | some s2 =>
   refine ⟨h2.1,by rw [h2.2.1,h1.2.1],fun θ => ?_⟩
   rw [h2.2.2 θ,h1.2.2 θ,Eqs.cons]
   exact ⟨fun ⟨⟨k1,k2⟩,k3⟩ => ⟨k1,(heq θ k1).2 k2,k3⟩,fun ⟨k1,k2,k3⟩ => ⟨⟨k1,(heq θ k1).1 k2⟩,k3⟩⟩
end Un
open Go.RowKit Go.Lib
open Un (kd nm ar)
namespace Un
theorem Okl.vin {s : List Ty} (h : Okl s) : Vin s:=fun x hx => by
 rcases h x hx with rfl | h1
 ·rfl
 ·exact vin_of_over _ _ h1
theorem over_var {n : Int} {t : Ty} (h : over n t = true) (h9 : kd t = 9) : 0 ≤ nm t ∧ nm t < n ∧ t = var (nm t):=
 have h1:=vin_var (vin_of_over _ _ h) h9
 ⟨h1.1,h1.2.1,ty_var h9 h1.2.2⟩
theorem occ_zero (v : Int) : occ v zero = false:=by rw [occ_eq];rfl
theorem res_occ {s : List Ty} {t z : Ty} (h : Res s t z) : over s.length t = true → ∀ {v m : Int} {zv : Ty},occ v t = true → Res s (var v) zv → occ m zv = true → occ m z = true:=by
 induction h with
 | uns t n x h9 hn hx hu =>
  intro ht v m zv ho hr hm
  have e:=(over_var ht h9).2.2
  rw [occ_eq,if_pos h9] at ho
  have ev : nm t = v:=by simpa using ho
  rw [e,ev]
  rw [Res.det hr (.uns (var v) n x rfl (by rw [← ev];exact hn) hx hu)] at hm
  exact hm
 | sol t n x r h9 hn hx hu h ih =>
  intro ht v m zv ho hr hm
  rw [occ_eq,if_pos h9] at ho
  have ev : nm t = v:=by simpa using ho
  rw [Res.det hr (.sol (var v) n x r rfl (by rw [← ev];exact hn) hx hu h)] at hm
  exact hm
 | str k i al rs h9 hl h ih =>
  intro ht v m zv ho hr hm
  rw [over_mk h9,Bool.and_eq_true,List.all_eq_true] at ht
  rw [occ_mk h9,List.any_eq_true] at ho ⊢
  obtain ⟨a,ha,hoa⟩:=ho
  obtain ⟨j,hj,rfl⟩:=List.getElem_of_mem ha
  exact ⟨rs[j]'(by omega),List.getElem_mem _,ih j _ _ (List.getElem?_eq_getElem hj) (List.getElem?_eq_getElem _) (ht.2 _ ha) hoa hr hm⟩
theorem ranked_set {s : List Ty} (hs : Okl s) (hr : Ranked s) {m : Nat} {t z : Ty} (hm : s[m]? = some zero) (ht : over s.length t = true) (hz : Res s t z) (ho : occ m z = false) : Ranked (s.set m t):=by
 classical
 have hml:=(List.getElem?_eq_some_iff.1 hm).1
 obtain ⟨rk,hk⟩:=hr.rk
 obtain ⟨K,hK⟩:=rk_bound (E:=s) rk
 refine Rk.ranked (rk:=fun v => rk v + if (∃ zv,Res s (var v) zv ∧ occ m zv = true) then K else 0) ?_
 intro e v x hx hv hov
 rw [List.length_set] at hv
 simp only
 by_cases he : m = e
 ·subst he
  rw [List.getElem?_set_self hml] at hx
  injection hx with hx
  subst hx
  have h1 : ¬ ∃ zv,Res s (var v) zv ∧ occ m zv = true:=fun ⟨zv,a1,a2⟩ => by
   rw [res_occ hz ht hov a1 a2] at ho;cases ho
  have h2 : ∃ zv,Res s (var m) zv ∧ occ m zv = true:=⟨var m,.uns _ m zero rfl rfl hm rfl,by rw [occ_eq,if_pos (show kd (var m) = 9 from rfl)];simp [var,nm]⟩
  rw [if_neg h1,if_pos h2]
  have:=hK v hv
  omega
 ·rw [List.getElem?_set_ne he] at hx
  have h1:=hk e v x hx hv hov
  have hxo : over s.length x = true:=by
   rcases hs x (List.mem_of_getElem? hx) with rfl | h2
   ·rw [occ_zero] at hov;cases hov
   ·exact h2
  by_cases hc : ∃ zv,Res s (var v) zv ∧ occ m zv = true
  ·have h2 : ∃ zv,Res s (var e) zv ∧ occ m zv = true:=by
    obtain ⟨zv,a1,a2⟩:=hc
    obtain ⟨r,h3⟩:=Res.ex hs.vin hr (vin_of_over _ _ hxo)
    exact ⟨r,.sol _ e x r rfl rfl hx (over_uns hxo) h3,res_occ h3 hxo hov a1 a2⟩
   rw [if_pos hc,if_pos h2]
   omega
  ·rw [if_neg hc]
   omega
theorem res_var {s : List Ty} {m : Nat} (hm : s[m]? = some zero) : Res s (var m) (var m):=.uns _ m zero rfl rfl hm rfl
theorem occ_var (v i : Int) : occ v (var i) = (i == v):=by rw [occ_eq,if_pos (show kd (var i) = 9 from rfl)];rfl
theorem rsol_ranked {s : List Ty} {ps : List (Ty × Ty)} {r : Option (List Ty)} (h : RSol s ps r) : Okl s → Ranked s → (∀ p ∈ ps,over s.length p.1 = true ∧ over s.length p.2 = true) → ∀ s',r = some s' → Ranked s':=by
 have rest : ∀ {s : List Ty} {a b : Ty} {ps : List (Ty × Ty)},(∀ p ∈ (a,b) :: ps,over s.length p.1 = true ∧ over s.length p.2 = true) → (over s.length a = true ∧ over s.length b = true) ∧ ∀ p ∈ ps,over s.length p.1 = true ∧ over s.length p.2 = true:=fun hp => ⟨hp _ (List.mem_cons_self ..),fun p h => hp p (List.mem_cons_of_mem _ h)⟩
 induction h with
 | nil s => intro hs hk _ s' h;cases h;exact hk
 | same s a b x y ps r f hx hy h9 k9 he h ih =>
  intro hs hk hp
  exact ih hs hk (rest hp).2
 | lt s a b x y ps r f hx hy h9 k9 he h ih =>
  intro hs hk hp
  obtain ⟨⟨va,vb⟩,hp'⟩:=rest hp
  obtain ⟨vx,ux,ex⟩:=rfind_spec hs hx va
  obtain ⟨vy,uy,ey⟩:=rfind_spec hs hy vb
  obtain ⟨m,rfl,hm⟩:=uy k9
  obtain ⟨l,rfl,hl⟩:=ux h9
  refine ih (okl_set hs vx) (ranked_set hs hk hm vx (res_var hl) ?_) (fun p hp => by rw [List.length_set];exact hp' p hp)
  have he' : (l : Int) < m:=he
  show ((l : Int) == (m : Int)) = false
  rw [beq_eq_false_iff_ne];omega
 | gt s a b x y ps r f hx hy h9 k9 he h ih =>
  intro hs hk hp
  obtain ⟨⟨va,vb⟩,hp'⟩:=rest hp
  obtain ⟨vx,ux,ex⟩:=rfind_spec hs hx va
  obtain ⟨vy,uy,ey⟩:=rfind_spec hs hy vb
  obtain ⟨m,rfl,hm⟩:=ux h9
  obtain ⟨l,rfl,hl⟩:=uy k9
  refine ih (okl_set hs vy) (ranked_set hs hk hm vy (res_var hl) ?_) (fun p hp => by rw [List.length_set];exact hp' p hp)
  have he' : (l : Int) < m:=he
  show ((l : Int) == (m : Int)) = false
  rw [beq_eq_false_iff_ne];omega
 | occL => intro _ _ _ s' h;cases h
 | occR => intro _ _ _ s' h;cases h
 | clash => intro _ _ _ s' h;cases h
 | argsF => intro _ _ _ s' h;cases h
 | bindL s a b x y z ps r f hx hy h9 k9 hz ho h ih =>
  intro hs hk hp
  obtain ⟨⟨va,vb⟩,hp'⟩:=rest hp
  obtain ⟨vx,ux,ex⟩:=rfind_spec hs hx va
  obtain ⟨vy,uy,ey⟩:=rfind_spec hs hy vb
  obtain ⟨m,rfl,hm⟩:=ux h9
  exact ih (okl_set hs vy) (ranked_set hs hk hm vy hz ho) (fun p hp => by rw [List.length_set];exact hp' p hp)
 | bindR s a b x y z ps r f hx hy h9 k9 hz ho h ih =>
  intro hs hk hp
  obtain ⟨⟨va,vb⟩,hp'⟩:=rest hp
  obtain ⟨vx,ux,ex⟩:=rfind_spec hs hx va
  obtain ⟨vy,uy,ey⟩:=rfind_spec hs hy vb
  obtain ⟨m,rfl,hm⟩:=uy k9
  exact ih (okl_set hs vx) (ranked_set hs hk hm vx hz ho) (fun p hp => by rw [List.length_set];exact hp' p hp)
 | args s a b x y s' ps r f hx hy h9 k9 hh h h' ih ih' =>
  intro hs hk hp
  obtain ⟨⟨va,vb⟩,hp'⟩:=rest hp
  obtain ⟨vx,ux,ex⟩:=rfind_spec hs hx va
  obtain ⟨vy,uy,ey⟩:=rfind_spec hs hy vb
  have hz : ∀ p ∈ (ar x).zip (ar y),over s.length p.1 = true ∧ over s.length p.2 = true:=fun p hp => ⟨over_args vx h9 _ (List.of_mem_zip hp).1,over_args vy k9 _ (List.of_mem_zip hp).2⟩
  have h1:=rsol_spec h hs hz
  exact ih' h1.1 (ih hs hk hz s' rfl) (fun p hp => by rw [h1.2.1];exact hp' p hp)
end Un
end Go.Proofs.Ytcdlnhfgehhkcaa
