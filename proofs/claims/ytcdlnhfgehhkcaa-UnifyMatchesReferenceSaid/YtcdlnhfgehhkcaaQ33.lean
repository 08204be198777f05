/- part of the proof -/
import Derived.Test.YtcdlnhfgehhkcaaQ32
set_option linter.unusedVariables false
set_option linter.unusedSimpArgs false
set_option linter.unusedSectionVars false
namespace Go.Proofs.Ytcdlnhfgehhkcaa
open Go.RowKit Go.Lib
open Un (kd nm ar)
namespace Un
structure UniT (s : List Ty) (a b : Ty) (R : List Ty) : Prop where
 canon : Canon s.length R
 hol : Holds (asn R) 0 s
 eq : ap (asn R) a = ap (asn R) b
 all : ∀ θ,Holds θ 0 s → ap θ a = ap θ b → Holds θ 0 R
theorem UniT.unique {s : List Ty} {a b : Ty} {R R' : List Ty} (h : UniT s a b R) (h' : UniT s a b R') : R = R':=h.canon.unique h'.canon (h'.all _ h.hol h.eq) (h.all _ h'.hol h'.eq)
def shallow (R : List Ty) (a : Ty) : Bool:=(R.all fun x => decide (depth x ≤ 8)) && decide (depth (ap (asn R) a) ≤ 8)
theorem vin_more {n : Nat} : ∀ t,vin n t = true → vin ((n + 1 : Nat) : Int) t = true:=by
 refine Un.Ty.ind fun k i al ih => ?_
 intro ht
 by_cases h9 : k = 9
 ·subst h9
  rw [vin_eq,if_pos (show kd (Ty.mk 9 i al) = 9 from rfl)] at ht ⊢
  simp only [Bool.and_eq_true,decide_eq_true_eq] at ht ⊢
  exact ⟨⟨ht.1.1,by omega⟩,ht.2⟩
 ·rw [vin_mk h9,List.all_eq_true] at ht ⊢
  exact fun x hx => ih x hx (ht x hx)
def also (θ : Int → Ty) (n : Nat) (t : Ty) (v : Int) : Ty:=if v = n then t else θ v
theorem ap_also {θ : Int → Ty} {n : Nat} {t x : Ty} (hx : vin n x = true) : ap (also θ n t) x = ap θ x:=ap_congr x fun v hv => by
 have:=occ_vin x hx hv
 unfold also
 rw [if_neg (by omega)]
theorem tail_total2 {n A : Nat} {ts : List Tm} {out : List Ty} {a : Ty} (hn : n ≤ 900) (hA : A ≤ 90000) (h1A : 1 ≤ A) (hlen : out.length = n) (hel : ∀ x ∈ out,x = zero ∨ Small n A x) (ha : Small n A a) :
  ∃ fe fa r,tailG fe fa a out = some r ∧ ((r = .error 8 ∧ ¬ Ranked (out ++ [a])) ∨ (Ranked (out ++ [a]) ∧ ∃ (R : List Ty) (θ : Int → Ty),R.length = n ∧ (∀ (i : Nat) (x : Ty),R[i]? = some x → ∃ y,out[i]? = some y ∧ Res out y x) ∧ Holds θ 0 out ∧ (∀ i : Nat,i < n → θ i = asn R i) ∧ r = if shallow R a = true then .ok R else .error 2)):=by
 have hvn : ∀ x ∈ out,vin n x = true:=fun x hx => by
  rcases hel x hx with rfl | h
  ·exact vin_of_unsolved _ _ (by decide)
  ·exact vin_of_over _ _ h.1
 have hav : vin n a = true:=vin_of_over _ _ ha.1
 have hsz : ∀ x ∈ out ++ [a],size x ≤ 90000:=fun x hx => by
  rcases List.mem_append.1 hx with h | h
  ·rcases hel x h with rfl | h
   ·decide
   ·have:=h.2;omega
  ·rw [List.mem_singleton] at h;subst h;have:=ha.2;omega
 have hvv : ∀ x ∈ out ++ [a],vin ((n + 1 : Nat) : Int) x = true:=fun x hx => by
  rcases List.mem_append.1 hx with h | h
  ·exact vin_more x (hvn x h)
  ·rw [List.mem_singleton] at h;subst h;exact vin_more _ hav
 have hguard : ((out ++ [a]).all fun t => decide (size t ≤ 90000) && vin (out.length + 1 : Nat) t) = true:=by
  rw [List.all_eq_true]
  intro x hx
  simp only [Bool.and_eq_true,decide_eq_true_eq]
  exact ⟨hsz x hx,by rw [hlen];exact hvv x hx⟩
 have hl1 : (out ++ [a]).length = n + 1:=by rw [List.length_append,List.length_singleton,hlen]
 obtain ⟨d,hd,hdr⟩:=depthsOf_total (out ++ [a]) (by rw [hl1];omega) hsz
 by_cases h2 : d.2 = true
 ·have hR:=hdr.1 h2
  have hv : Vin out:=fun x hx => by rw [hlen];exact hvn x hx
  have hRo:=ranked_left hR
  obtain ⟨fe,fa,rs,g1,g2,g3⟩:=appsG_total hv hRo out (fun x hx => by rw [hlen];exact hvn x hx)
  obtain ⟨θ,hθ,hθr⟩:=holds_ex hv hRo
  have hget : ∀ (i : Nat) (x : Ty),rs[i]? = some x → ∃ y,out[i]? = some y ∧ Res out y x:=fun i x hx => by
   have hil:=(List.getElem?_eq_some_iff.1 hx).1
   have a1:=List.getElem?_eq_getElem (l:=out) (i:=i) (by omega)
   exact ⟨_,a1,g3 i _ x a1 hx⟩
  have hasn : ∀ i : Nat,i < n → θ i = asn rs i ∧ ∀ x,rs[i]? = some x → depth x = depth (θ i):=fun i hi => by
   obtain ⟨x,hx⟩ : ∃ x,rs[i]? = some x:=⟨_,List.getElem?_eq_getElem (by omega)⟩
   obtain ⟨y,hy,hres⟩:=hget i x hx
   have hvi : vin out.length (var i) = true:=by rw [hlen];exact vin_of_over _ _ (over_nat hi)
   have key : θ i = asn rs i ∧ depth x = depth (θ i):=by
    rw [asn_some hx]
    rcases hel y (List.mem_of_getElem? hy) with rfl | hyo
    ·have e1:=res_zero hres
     subst e1
     rw [if_pos (show unsolved zero = true from rfl)]
     have e2 : θ i = var i:=by rw [← ap_var θ i];exact hθr _ _ hvi (res_var hy)
     rw [e2]
     exact ⟨rfl,rfl⟩
    ·have hxo : over out.length x = true:=hres.over (fun z hz => by
      rw [hlen]
      exact (hel z hz).imp (fun h => by subst h;rfl) (fun h => h.1)) (by rw [hlen];exact hyo.1)
     rw [over_uns hxo,if_neg (by decide)]
     have e2 : θ i = x:=by rw [← ap_var θ i];exact hθr _ _ hvi (.sol (var i) i y x rfl rfl hy (over_uns hyo.1) hres)
     rw [e2]
     exact ⟨rfl,rfl⟩
   exact ⟨key.1,fun x' hx' => by rw [hx] at hx';cases hx';exact key.2⟩
  have hapa : ap (asn rs) a = ap θ a:=ap_congr a fun v hv => by
   have:=occ_vin a hav hv
   rw [show v = ((v.toNat : Nat) : Int) by omega]
   exact (hasn v.toNat (by omega)).1.symm
  have hDp : Dp (out ++ [a]) (also θ n (ap θ a)):=by
   refine ⟨fun x hx => by rw [hl1];exact hvv x hx,fun j x hx => ?_,fun e x hx hu => ?_⟩
   ·by_cases hj : j < n
    ·rw [List.getElem?_append_left (by omega)] at hx
     rw [ap_also (hvn x (List.mem_of_getElem? hx))]
     rcases hθ j x hx with h | h
     ·exact .inl h
     ·right
      rw [h,Nat.zero_add]
      unfold also
      rw [if_neg (by omega)]
    ·have hjl:=(List.getElem?_eq_some_iff.1 hx).1
     rw [hl1] at hjl
     rw [List.getElem?_append_right (by omega),hlen,show j - n = 0 by omega] at hx
     simp only [List.getElem?_cons_zero,Option.some.injEq] at hx
     subst hx
     right
     rw [ap_also hav,Nat.zero_add]
     unfold also
     rw [if_pos (by omega)]
   ·by_cases hj : e < n
    ·rw [List.getElem?_append_left (by omega)] at hx
     have hz : x = zero:=by
      rcases hel x (List.mem_of_getElem? hx) with h | h
      ·exact h
      ·rw [over_uns h.1] at hu;cases hu
     subst hz
     unfold also
     rw [if_neg (by omega),← ap_var θ e,hθr _ _ (by rw [hlen];exact vin_of_over _ _ (over_nat hj)) (res_var hx)]
     rfl
    ·have hjl:=(List.getElem?_eq_some_iff.1 hx).1
     rw [hl1] at hjl
     rw [List.getElem?_append_right (by omega),hlen,show e - n = 0 by omega] at hx
     simp only [List.getElem?_cons_zero,Option.some.injEq] at hx
     subst hx
     rw [over_uns ha.1] at hu
     cases hu
  have hany:=depthsOf_any hDp (by rw [hl1];omega) hsz hd h2
  rw [hl1] at hany
  have hsh : shallow rs a = true ↔ ¬ ∃ e : Nat,e < n + 1 ∧ 8 < depth (also θ n (ap θ a) e):=by
   unfold shallow
   rw [hapa]
   simp only [Bool.and_eq_true,List.all_eq_true,decide_eq_true_eq]
   constructor
   ·rintro ⟨h3,h4⟩ ⟨e,h5,h6⟩
    unfold also at h6
    by_cases he : e = n
    ·rw [if_pos (by omega)] at h6;omega
    ·rw [if_neg (by omega)] at h6
     have hx:=List.getElem?_eq_getElem (l:=rs) (i:=e) (by omega)
     have:=h3 _ (List.mem_of_getElem? hx)
     have:=(hasn e (by omega)).2 _ hx
     omega
   ·intro h3
    refine ⟨fun x hx => ?_,?_⟩
    ·obtain ⟨i,hi⟩:=List.mem_iff_getElem?.1 hx
     have hil:=(List.getElem?_eq_some_iff.1 hi).1
     by_cases h4 : depth x ≤ 8
     ·exact h4
     ·refine absurd ⟨i,by omega,?_⟩ h3
      unfold also
      rw [if_neg (by omega),← (hasn i (by omega)).2 x hi]
      omega
    ·by_cases h4 : depth (ap θ a) ≤ 8
     ·exact h4
     ·refine absurd ⟨n,by omega,?_⟩ h3
      unfold also
      rw [if_pos rfl]
      omega
  by_cases h3 : (d.1.any fun n => decide (8 < n)) = true
  ·refine ⟨0,0,.error 2,by unfold tailG;rw [if_pos hguard,hd];simp only;rw [if_neg (by simp [h2]),if_pos h3],.inr ⟨hR,rs,θ,by omega,hget,hθ,fun i hi => (hasn i hi).1,?_⟩⟩
   rw [if_neg (fun h => hsh.1 h (hany.1 h3))]
  ·refine ⟨fe,fa,.ok rs,by unfold tailG;rw [if_pos hguard,hd];simp only;rw [if_neg (by simp [h2]),if_neg h3,g1];rfl,.inr ⟨hR,rs,θ,by omega,hget,hθ,fun i hi => (hasn i hi).1,?_⟩⟩
   rw [if_pos (hsh.2 fun h => h3 (hany.2 h))]
 ·refine ⟨0,0,.error 8,by unfold tailG;rw [if_pos hguard,hd];simp only;rw [if_pos (by simpa using h2)],.inl ⟨rfl,fun h => h2 (hdr.2 h)⟩⟩
theorem unifyG_total2 {s : List Ty} {a b : Ty} {A : Nat} (hn : s.length ≤ 900) (hA : A ≤ 90000) (h1A : 1 ≤ A) (hs : ∀ t ∈ s,size t ≤ A) (ha : size a ≤ A) (hb : size b ≤ A) :
  ∃ fs fe fa r wb,wf s = some wb ∧ unifyG fs (fuel s a b A) fe fa s a b = some r ∧ (((wb && (element s.length a && element s.length b)) = false ∧ r = .error 1) ∨ ((wb && (element s.length a && element s.length b)) = true ∧ ((r = .error 8 ∧ ∀ θ,Holds θ 0 s → ap θ a = ap θ b → False) ∨ ∃ R,UniT s a b R ∧ r = if shallow R a = true then .ok R else .error 2))):=by
 obtain ⟨wb,hw,hwt⟩:=wf_total (s:=s) (by omega) (fun t ht => by have:=hs t ht;omega)
 cases wb with
 | false => exact ⟨0,0,0,.error 1,false,hw,by unfold unifyG;rw [hw],.inl ⟨rfl,rfl⟩⟩
 | true =>
  by_cases he : (element s.length a && element s.length b) = true
  ·obtain ⟨hel,hrk⟩:=hwt rfl
   have he2:=he
   simp only [Bool.and_eq_true] at he
   have hov : ∀ t,element (s.length : Nat) t = true → over s.length t = true:=fun t h => by
    unfold element at h
    simp only [Bool.and_eq_true] at h
    exact h.2
   have hsS : ∀ t ∈ s,unsolved t = true ∨ Small s.length A t:=fun t ht => (hel t ht).imp id (fun h => ⟨hov t h,hs t ht⟩)
   have haS : Small s.length A a:=⟨hov a he.1,ha⟩
   have hbS : Small s.length A b:=⟨hov b he.2,hb⟩
   have hVin : Vin s:=fun x hx => by
    rcases hsS x hx with h | h
    ·exact vin_of_unsolved _ _ h
    ·exact vin_of_over _ _ h.1
   have hsV : ∀ t ∈ s,unsolved t = true ∨ (vin s.length t = true ∧ size t ≤ A):=fun t ht => (hsS t ht).imp id (fun h => ⟨vin_of_over _ _ h.1,h.2⟩)
   obtain ⟨θ0,hθ0,_⟩:=holds_ex hVin hrk
   obtain ⟨fs1,r0,q1,q2⟩:=newS_total (n:=s.length) (A:=A) (f:=fuel s a b A) s 0 (fresh s.length) (by omega) hsV (fresh_st _) ⟨_,fresh_fo _⟩ (fresh_args _ _) (by
    rw [fresh_len]
    unfold fuel
    have : (s.length + sizes s) * (A + 1) ≤ (s.length + sizes s + size a + size b) * (A + 1):=Nat.mul_le_mul_right _ (by omega)
    omega)
   obtain ⟨ts0,rfl,_⟩:=q2.sol θ0 (fresh_sol _ _) hθ0
   obtain ⟨st0,⟨rk0,fo0⟩,ar0,ln0⟩:=q2.ok ts0 rfl
   rw [fresh_len] at ln0
   obtain ⟨rt0,n0⟩:=newS_rt q1 hsV (fresh_st _) ⟨_,fresh_fo _⟩ (fresh_rt _) (fresh_cong _ _ _)
   have al0:=newS_all (P:=Small s.length A) Small.sub q1 hsS (fresh_small h1A)
   obtain ⟨ra,xa,hxa,hxat⟩:=add_ok s.length A a ts0 st0 (vin_of_over _ _ haS.1) ha
   have st1:=ra.st st0
   have fo1:=ra.fo st0.le fo0
   obtain ⟨rb,xb,hxb,hxbt⟩:=add_ok s.length A b (add ts0 a).1 st1 (vin_of_over _ _ hbS.1) hb
   have st2:=rb.st st1
   have fo2:=rb.fo st1.le fo1
   have rt1:=ra.rt n0.rts
   have cg1:=ra.cong n0.rts n0.cong
   have rt2:=rb.rt rt1
   have cg2:=rb.cong rt1 cg1
   have hxa2:=rb.tm hxa
   have al2 : ∀ x ∈ (add (add ts0 a).1 b).1,Small s.length A x.t:=add_all Small.sub b _ hbS (add_all Small.sub a _ haS al0)
   have la:=add_len a ts0
   have lb:=add_len b (add ts0 a).1
   obtain ⟨a0,a1,_⟩:=tm_get hxa2
   obtain ⟨b0,b1,_⟩:=tm_get hxb
   have hrl : roots (add (add ts0 a).1 b).1 * (A + 1) ≤ (add (add ts0 a).1 b).1.length * (A + 1):=Nat.mul_le_mul_right _ (roots_le _)
   have hml : (add (add ts0 a).1 b).1.length * (A + 1) ≤ (s.length + sizes s + size a + size b) * (A + 1):=Nat.mul_le_mul_right _ (by omega)
   obtain ⟨fs2,jr,j1,j2⟩:=joinG_total (n:=s.length) (A:=A) (fuel s a b A) (add (add ts0 a).1 b).1 [((add ts0 a).2,(add (add ts0 a).1 b).2)] st2 ⟨rk0,fo2⟩ (rb.args (ra.args ar0)) (fun p hp => by
    rw [List.mem_singleton] at hp
    subst hp
    simp only
    omega) (by unfold fuel;simp only [List.length_singleton];omega)
   have hsol : ∀ θ,Holds θ 0 s → ap θ a = ap θ b → ∃ ts,jr = some ts ∧ SolN θ ts:=fun θ hθ hab => by
    obtain ⟨ts0',e0,hs0⟩:=q2.sol θ (fresh_sol _ _) hθ
    cases e0
    refine j2.sol θ (rb.solN fo1 (ra.solN fo0 hs0)) (fun x y c d hm hc hd => ?_)
    rw [List.mem_singleton] at hm
    cases hm
    rw [hxa2] at hc
    rw [hxb] at hd
    cases hc
    cases hd
    rw [hxat,hxbt,hab]
   have hpre : (true && (element s.length a && element s.length b)) = true:=by rw [he2];rfl
   cases jr with
   | none =>
    refine ⟨max fs1 fs2,0,0,.error 8,true,hw,?_,.inr ⟨hpre,.inl ⟨rfl,fun θ hθ hab => ?_⟩⟩⟩
    ·unfold unifyG
     rw [hw]
     simp only
     rw [if_pos (by simp [he])]
     unfold unifiedG
     rw [newS_mono q1 (Nat.le_max_left fs1 fs2)]
     simp only
     rw [joinG_mono j1 (Nat.le_max_right fs1 fs2)]
    ·obtain ⟨ts,h,_⟩:=hsol θ hθ hab
     cases h
   | some ts =>
    obtain ⟨c3,rk3,fo3⟩:=j2.ok ts rfl
    have st3:=st2.of_core c3
    obtain ⟨rt3,g3⟩:=joinG_rt j1 ⟨rk0,fo2⟩ rt2 (cg2.more _)
    obtain ⟨fs3,hfs3⟩ : ∃ m,∀ i,i < s.length → rk3 i < m:=rk_bound (E:=s) rk3
    obtain ⟨y,y1,y2,_⟩:=sol_total st3 fo3 hfs3 s.length (Nat.le_refl _)
    have hK:=sol_rt g3.rts fo3 st3.le (Nat.le_refl _) y1
    have al3 : ∀ x ∈ ts,Small s.length A x.t:=core_all c3 al2
    have hshape : ∀ (j : Nat) (x : Ty),y.2.2[j]? = some x → Elem s.length ts y.2.2 j x:=fun j x hx => y2.shape j x (by have:=(List.getElem?_eq_some_iff.1 hx).1;rw [y2.len] at this;exact this) hx
    have hel2 : ∀ x ∈ y.2.2,x = zero ∨ Small s.length A x:=fun x hx => by
     obtain ⟨j,hj⟩:=List.mem_iff_getElem?.1 hx
     have hjl:=(List.getElem?_eq_some_iff.1 hj).1
     rw [y2.len] at hjl
     rcases hshape j x hj with h | ⟨f,rfl,hf,_⟩ | ⟨i,t,_,ht,rfl⟩
     ·exact .inl h
     ·exact .inr ⟨over_nat (by omega),by simpa [var,size,sizes] using h1A⟩
     ·exact .inr (al3 t (List.mem_of_getElem? ht))
    obtain ⟨fe,fa,r,t1,t2⟩:=tail_total2 (ts:=ts) hn hA h1A y2.len hel2 haS
    refine ⟨max fs1 (max fs2 fs3),fe,fa,r,true,hw,?_,.inr ⟨hpre,?_⟩⟩
    ·unfold unifyG
     rw [hw]
     simp only
     rw [if_pos (by simp [he])]
     unfold unifiedG
     rw [newS_mono q1 (by omega)]
     simp only
     rw [joinG_mono j1 (show fs2 ≤ max fs1 (max fs2 fs3) by omega)]
     simp only
     rw [sol_mono (show fs3 ≤ max fs1 (max fs2 fs3) by omega) y1]
     exact t1
    ·have hvo : ∀ x ∈ y.2.2,vin s.length x = true:=fun x hx => by
      rcases hel2 x hx with rfl | h
      ·exact vin_of_unsolved _ _ (by decide)
      ·exact vin_of_over _ _ h.1
     have hHo : ∀ θ,Holds θ 0 s → ap θ a = ap θ b → Holds θ 0 y.2.2:=fun θ hθ hab => by
      obtain ⟨ts',h,hs3⟩:=hsol θ hθ hab
      cases h
      intro j x hx
      have:=(y2.sol θ hs3).2 j x hx
      rwa [Nat.zero_add]
     rcases t2 with ⟨t2,t3⟩ | ⟨t3,R,θ,h1,h2,h3,h4,t2⟩
     ·exact .inl ⟨t2,fun θ hθ hab => t3 (out_ranked y2.len hshape st3 hvo (vin_of_over _ _ haS.1) (hHo θ hθ hab))⟩
     ·refine .inr ⟨R,?_,t2⟩
      have hcl:=cls_eq hK st3 g3.rts g3.cong (fun i t hi ht => over_uns (al3 t (List.mem_of_getElem? ht)).1) h3
      have hθa : ∀ t,vin s.length t = true → ap θ t = ap (asn R) t:=fun t ht => ap_congr t fun v hv => by
       have:=occ_vin t ht hv
       rw [show v = ((v.toNat : Nat) : Int) by omega]
       exact h4 v.toNat (by omega)
      refine ⟨code_canon y2.len hshape st3 al3 h1 h2,fun j t ht => ?_,?_,fun θ' hθ' hab => ?_⟩
      ·rcases n0.el j t ht with h | ⟨k,c,k1,k2,k3⟩
       ·exact .inl h
       ·by_cases hu : unsolved t = true
        ·exact .inl hu
        ·right
         have hjl:=(List.getElem?_eq_some_iff.1 ht).1
         have htv:=((hsV t (List.mem_of_getElem? ht)).resolve_left hu).1
         obtain ⟨c1,p1,p2,_⟩:=core_get c3 (rb.pre k c (ra.pre k c k1))
         obtain ⟨d,p3⟩ : ∃ d,ts[j]? = some d:=⟨_,List.getElem?_eq_getElem (by have:=st3.le;omega)⟩
         have e1:=hcl j k d c1 p3 p1 (g3.up _ _ (by rw [Nat.zero_add] at k3;exact k3))
         rw [st3.vr j d hjl p3,p2,k2,ap_var] at e1
         rw [Nat.zero_add,← hθa t htv,← e1,h4 j hjl]
      ·obtain ⟨_,_,p1⟩:=tm_get hxa2
       obtain ⟨_,_,p2⟩:=tm_get hxb
       obtain ⟨c1,p3,p4,_⟩:=core_get c3 p1
       obtain ⟨d1,p5,p6,_⟩:=core_get c3 p2
       have e1:=hcl _ _ c1 d1 p3 p5 (by have:=g3.ps ((add ts0 a).2,(add (add ts0 a).1 b).2) (by simp);simpa using this)
       rw [p4,hxat,p6,hxbt] at e1
       rw [← hθa a (vin_of_over _ _ haS.1),← hθa b (vin_of_over _ _ hbS.1),e1]
      ·intro j x hx
       obtain ⟨z,hz,hres⟩:=h2 j x hx
       have hH:=hHo θ' hθ' hab
       rcases hel2 z (List.mem_of_getElem? hz) with rfl | hzo
       ·left;rw [res_zero hres];rfl
       ·right
        rw [hres.ap hH]
        exact (hH j z hz).resolve_left (by rw [over_uns hzo.1];decide)
  ·refine ⟨0,0,0,.error 1,true,hw,by unfold unifyG;rw [hw];simp only;rw [if_neg he],.inl ⟨?_,rfl⟩⟩
   cases h : (element s.length a && element s.length b) with
   | true => exact absurd h he
   | false => rfl
end Un
end Go.Proofs.Ytcdlnhfgehhkcaa
