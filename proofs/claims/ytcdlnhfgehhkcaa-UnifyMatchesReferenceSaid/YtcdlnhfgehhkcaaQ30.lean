/- part of the proof -/
import Derived.Test.YtcdlnhfgehhkcaaQ29
set_option linter.unusedVariables false
set_option linter.unusedSimpArgs false
set_option linter.unusedSectionVars false
namespace Go.Proofs.Ytcdlnhfgehhkcaa
open Go.RowKit Go.Lib
open Un (kd nm ar)
namespace Un
theorem rfind_mono {s : List Ty} : ∀ {f g : Nat} {t y : Ty},rfind s f t = some y → f ≤ g → rfind s g t = some y:=by
 intro f
 induction f with
 | zero => intro g t y h;simp [rfind] at h
 | succ f ih =>
  intro g t y h hg
  obtain ⟨g',rfl⟩ : ∃ g',g = g' + 1:=⟨g - 1,by omega⟩
  rw [rfind] at h ⊢
  by_cases h9 : kd t = 9
  ·rw [if_pos h9] at h ⊢
   by_cases h0 : 0 ≤ nm t
   ·rw [if_pos h0] at h ⊢
    cases hx : s[(nm t).toNat]? with
    | none => rw [hx] at h;cases h
    | some x =>
     rw [hx] at h
     simp only at h ⊢
     by_cases hk : kd x = 0
     ·rw [if_pos hk] at h ⊢;exact h
     ·rw [if_neg hk] at h ⊢;exact ih h (by omega)
   ·rw [if_neg h0] at h;cases h
  ·rw [if_neg h9] at h ⊢;exact h
theorem rfind_res {s : List Ty} (hs : Okl s) {t z : Ty} (h : Res s t z) : ∃ f y,rfind s f t = some y ∧ Res s y z:=by
 induction h with
 | uns t n x h9 hn hx hu =>
  refine ⟨1,t,?_,.uns t n x h9 hn hx hu⟩
  have hk : kd x = 0:=by
   rcases hs x (List.mem_of_getElem? hx) with rfl | h1
   ·rfl
   ·rw [over_uns h1] at hu;cases hu
  rw [rfind,if_pos h9,hn,if_pos (by omega),Int.toNat_natCast,hx]
  simp only
  rw [if_pos hk]
 | sol t n x r h9 hn hx hu h ih =>
  obtain ⟨f,y,h1,h2⟩:=ih
  refine ⟨f + 1,y,?_,h2⟩
  have hk : kd x ≠ 0:=by
   rcases hs x (List.mem_of_getElem? hx) with rfl | h1
   ·cases hu
   ·exact over_kd h1
  rw [rfind,if_pos h9,hn,if_pos (by omega),Int.toNat_natCast,hx]
  simp only
  rw [if_neg hk]
  exact h1
 | str k i al rs h9 hl h ih => exact ⟨1,_,by rw [rfind,if_neg (show ¬ kd (Ty.mk k i al) = 9 from h9)],.str k i al rs h9 hl h⟩
def uns (s : List Ty) : Nat:=s.countP unsolved
theorem uns_set {t : Ty} (hu : unsolved t = false) : ∀ {s : List Ty} {m : Nat} {x : Ty},s[m]? = some x → unsolved x = true → uns (s.set m t) < uns s
 | [],m,x,h,_ => by simp at h
 | y :: s,0,x,h,hx => by
  simp only [List.getElem?_cons_zero,Option.some.injEq] at h
  subst h
  simp [uns,List.countP_cons,hu,hx]
 | y :: s,m + 1,x,h,hx => by
  have h1:=uns_set hu (s:=s) (m:=m) (x:=x) (by simpa using h) hx
  unfold uns at h1 ⊢
  rw [List.set_cons_succ,List.countP_cons,List.countP_cons]
  omega
theorem rsol_uns {s : List Ty} {ps : List (Ty × Ty)} {r : Option (List Ty)} (h : RSol s ps r) : Okl s → (∀ p ∈ ps,over s.length p.1 = true ∧ over s.length p.2 = true) → ∀ s',r = some s' → s' = s ∨ uns s' < uns s:=by
 have rest : ∀ {s : List Ty} {a b : Ty} {ps : List (Ty × Ty)},(∀ p ∈ (a,b) :: ps,over s.length p.1 = true ∧ over s.length p.2 = true) → (over s.length a = true ∧ over s.length b = true) ∧ ∀ p ∈ ps,over s.length p.1 = true ∧ over s.length p.2 = true:=fun hp => ⟨hp _ (List.mem_cons_self ..),fun p h => hp p (List.mem_cons_of_mem _ h)⟩
 have fin : ∀ {s s1 s' : List Ty},uns s1 < uns s → (s' = s1 ∨ uns s' < uns s1) → s' = s ∨ uns s' < uns s:=fun h1 h2 => by
  rcases h2 with rfl | h2
  ·exact .inr h1
  ·exact .inr (by omega)
 induction h with
 | nil s => intro hs _ s' h;cases h;exact .inl rfl
 | same s a b x y ps r f hx hy h9 k9 he h ih => intro hs hp;exact ih hs (rest hp).2
 | lt s a b x y ps r f hx hy h9 k9 he h ih =>
  intro hs hp s' hr
  obtain ⟨⟨va,vb⟩,hp'⟩:=rest hp
  obtain ⟨vx,ux,ex⟩:=rfind_spec hs hx va
  obtain ⟨vy,uy,ey⟩:=rfind_spec hs hy vb
  obtain ⟨m,rfl,hm⟩:=uy k9
  exact fin (uns_set (over_uns vx) hm rfl) (ih (okl_set hs vx) (fun p hp => by rw [List.length_set];exact hp' p hp) s' hr)
 | gt s a b x y ps r f hx hy h9 k9 he h ih =>
  intro hs hp s' hr
  obtain ⟨⟨va,vb⟩,hp'⟩:=rest hp
  obtain ⟨vx,ux,ex⟩:=rfind_spec hs hx va
  obtain ⟨vy,uy,ey⟩:=rfind_spec hs hy vb
  obtain ⟨m,rfl,hm⟩:=ux h9
  exact fin (uns_set (over_uns vy) hm rfl) (ih (okl_set hs vy) (fun p hp => by rw [List.length_set];exact hp' p hp) s' hr)
 | occL => intro _ _ s' h;cases h
 | occR => intro _ _ s' h;cases h
 | clash => intro _ _ s' h;cases h
 | argsF => intro _ _ s' h;cases h
 | bindL s a b x y z ps r f hx hy h9 k9 hz ho h ih =>
  intro hs hp s' hr
  obtain ⟨⟨va,vb⟩,hp'⟩:=rest hp
  obtain ⟨vx,ux,ex⟩:=rfind_spec hs hx va
  obtain ⟨vy,uy,ey⟩:=rfind_spec hs hy vb
  obtain ⟨m,rfl,hm⟩:=ux h9
  exact fin (uns_set (over_uns vy) hm rfl) (ih (okl_set hs vy) (fun p hp => by rw [List.length_set];exact hp' p hp) s' hr)
 | bindR s a b x y z ps r f hx hy h9 k9 hz ho h ih =>
  intro hs hp s' hr
  obtain ⟨⟨va,vb⟩,hp'⟩:=rest hp
  obtain ⟨vx,ux,ex⟩:=rfind_spec hs hx va
  obtain ⟨vy,uy,ey⟩:=rfind_spec hs hy vb
  obtain ⟨m,rfl,hm⟩:=uy k9
  exact fin (uns_set (over_uns vx) hm rfl) (ih (okl_set hs vx) (fun p hp => by rw [List.length_set];exact hp' p hp) s' hr)
 | args s a b x y s1 ps r f hx hy h9 k9 hh h h' ih ih' =>
  intro hs hp s' hr
  obtain ⟨⟨va,vb⟩,hp'⟩:=rest hp
  obtain ⟨vx,ux,ex⟩:=rfind_spec hs hx va
  obtain ⟨vy,uy,ey⟩:=rfind_spec hs hy vb
  have hz : ∀ p ∈ (ar x).zip (ar y),over s.length p.1 = true ∧ over s.length p.2 = true:=fun p hp => ⟨over_args vx h9 _ (List.of_mem_zip hp).1,over_args vy k9 _ (List.of_mem_zip hp).2⟩
  have h1:=rsol_spec h hs hz
  have h2:=ih' h1.1 (fun p hp => by rw [h1.2.1];exact hp' p hp) s' hr
  rcases ih hs hz s1 rfl with rfl | h3
  ·exact h2
  ·exact fin h3 h2
inductive Wt (s : List Ty) : List (Ty × Ty) → Nat → Prop
 | nil : Wt s [] 0
 | cons (a b z : Ty) (ps : List (Ty × Ty)) (w : Nat) (h : Res s a z) (h' : Wt s ps w) : Wt s ((a,b) :: ps) (size z + w)
theorem Wt.ex {s : List Ty} (hs : Okl s) (hr : Ranked s) : ∀ (ps : List (Ty × Ty)),(∀ p ∈ ps,over s.length p.1 = true ∧ over s.length p.2 = true) → ∃ w,Wt s ps w
 | [],_ => ⟨_,.nil⟩
 | (a,b) :: ps,hp => by
  obtain ⟨w,h⟩:=Wt.ex hs hr ps (fun p h => hp p (List.mem_cons_of_mem _ h))
  obtain ⟨z,hz⟩:=Res.ex hs.vin hr (vin_of_over _ _ (hp _ (List.mem_cons_self ..)).1)
  exact ⟨_,.cons a b z ps w hz h⟩
theorem Wt.args {s : List Ty} : ∀ {al rs m : List Ty},rs.length = al.length → al.length = m.length → (∀ (j : Nat) (a r : Ty),al[j]? = some a → rs[j]? = some r → Res s a r) → Wt s (al.zip m) (sizes rs)
 | [],[],[],_,_,_ => .nil
 | a :: al,r :: rs,y :: m,h1,h2,h => by
  have h3:=Wt.args (s:=s) (al:=al) (rs:=rs) (m:=m) (by simpa using h1) (by simpa using h2) (fun j a r ha hr => h (j + 1) a r (by simpa using ha) (by simpa using hr))
  exact .cons a y r _ _ (h 0 a r rfl rfl) h3
 | [],_ :: _,_,h,_,_ => by simp at h
 | _ :: _,[],_,h,_,_ => by simp at h
 | [],[],_ :: _,_,h,_ => by simp at h
 | _ :: _,_ :: _,[],_,h,_ => by simp at h
theorem rsol_total : ∀ (u : Nat) (s : List Ty),uns s ≤ u → Okl s → Ranked s → ∀ ps : List (Ty × Ty),(∀ p ∈ ps,over s.length p.1 = true ∧ over s.length p.2 = true) → ∃ r,RSol s ps r:=by
 intro u
 induction u using Nat.strongRecOn with
 | ind u ihu =>
  intro s hu hs hr ps hp
  have low : ∀ s2 : List Ty,uns s2 < uns s → s2.length = s.length → Okl s2 → Ranked s2 → ∀ ps : List (Ty × Ty),(∀ p ∈ ps,over s.length p.1 = true ∧ over s.length p.2 = true) → ∃ r,RSol s2 ps r:=fun s2 h1 hl h2 h3 ps hp =>
   ihu (uns s2) (by omega) s2 (Nat.le_refl _) h2 h3 ps (by rw [hl];exact hp)
  clear ihu
  obtain ⟨w,hw⟩:=Wt.ex hs hr ps hp
  induction w using Nat.strongRecOn generalizing ps with
  | ind w ihw =>
   cases hw with
   | nil => exact ⟨_,.nil s⟩
   | cons a b z ps w' ha hw' =>
    have hp1:=hp _ (List.mem_cons_self ..)
    have hp' : ∀ p ∈ ps,over s.length p.1 = true ∧ over s.length p.2 = true:=fun p h => hp p (List.mem_cons_of_mem _ h)
    have hz1 : 1 ≤ size z:=size_pos z
    obtain ⟨zb,hb⟩:=Res.ex hs.vin hr (vin_of_over _ _ hp1.2)
    obtain ⟨f1,x,hx,hxz⟩:=rfind_res hs ha
    obtain ⟨f2,y,hy,hyz⟩:=rfind_res hs hb
    replace hx:=rfind_mono hx (Nat.le_max_left f1 f2)
    replace hy:=rfind_mono hy (Nat.le_max_right f1 f2)
    obtain ⟨vx,ux,ex⟩:=rfind_spec hs hx hp1.1
    obtain ⟨vy,uy,ey⟩:=rfind_spec hs hy hp1.2
    by_cases h9 : kd x = 9
    ·by_cases k9 : kd y = 9
     ·obtain ⟨m,hxm,hm⟩:=ux h9
      obtain ⟨l,hyl,hl⟩:=uy k9
      rcases Int.lt_trichotomy (nm x) (nm y) with h | h | h
      ·obtain ⟨r,hr'⟩:=low (s.set l x) (uns_set (over_uns vx) hl rfl) (List.length_set ..) (okl_set hs vx) (ranked_set hs hr hl vx (z:=x) (by rw [hxm];exact res_var hm) (by
        rw [hxm,hyl] at h
        have h' : (m : Int) < l:=h
        rw [hxm]
        show ((m : Int) == (l : Int)) = false
        rw [beq_eq_false_iff_ne];omega)) ps hp'
       exact ⟨r,.lt s a b x y ps r _ hx hy h9 k9 h (by rw [hyl];exact hr')⟩
      ·obtain ⟨r,hr'⟩:=ihw w' (by omega) ps hp' hw'
       exact ⟨r,.same s a b x y ps r _ hx hy h9 k9 h hr'⟩
      ·obtain ⟨r,hr'⟩:=low (s.set m y) (uns_set (over_uns vy) hm rfl) (List.length_set ..) (okl_set hs vy) (ranked_set hs hr hm vy (z:=y) (by rw [hyl];exact res_var hl) (by
        rw [hxm,hyl] at h
        have h' : (l : Int) < m:=h
        rw [hyl]
        show ((l : Int) == (m : Int)) = false
        rw [beq_eq_false_iff_ne];omega)) ps hp'
       exact ⟨r,.gt s a b x y ps r _ hx hy h9 k9 h (by rw [hxm];exact hr')⟩
     ·obtain ⟨m,hxm,hm⟩:=ux h9
      cases ho : occ (nm x) zb with
      | true => exact ⟨none,.occL s a b x y zb ps _ hx hy h9 k9 hyz ho⟩
      | false =>
       obtain ⟨r,hr'⟩:=low (s.set m y) (uns_set (over_uns vy) hm rfl) (List.length_set ..) (okl_set hs vy) (ranked_set hs hr hm vy hyz (by rw [hxm] at ho;exact ho)) ps hp'
       exact ⟨r,.bindL s a b x y zb ps r _ hx hy h9 k9 hyz ho (by rw [hxm];exact hr')⟩
    ·by_cases k9 : kd y = 9
     ·obtain ⟨m,hym,hm⟩:=uy k9
      cases ho : occ (nm y) z with
      | true => exact ⟨none,.occR s a b x y z ps _ hx hy h9 k9 hxz ho⟩
      | false =>
       obtain ⟨r,hr'⟩:=low (s.set m x) (uns_set (over_uns vx) hm rfl) (List.length_set ..) (okl_set hs vx) (ranked_set hs hr hm vx hxz (by rw [hym] at ho;exact ho)) ps hp'
       exact ⟨r,.bindR s a b x y z ps r _ hx hy h9 k9 hxz ho (by rw [hym];exact hr')⟩
     ·by_cases hh : kd x = kd y ∧ nm x = nm y ∧ (ar x).length = (ar y).length
      ·have hzz : ∀ p ∈ (ar x).zip (ar y),over s.length p.1 = true ∧ over s.length p.2 = true:=fun p hp => ⟨over_args vx h9 _ (List.of_mem_zip hp).1,over_args vy k9 _ (List.of_mem_zip hp).2⟩
       have hwt : ∃ w2,w2 < size z ∧ Wt s ((ar x).zip (ar y)) w2:=by
        cases hxz with
        | uns t n x' h => exact absurd h h9
        | sol t n x' r h => exact absurd h h9
        | str k i al rs h hl hel => exact ⟨sizes rs,by rw [size_eq];exact Nat.lt_succ_self _,Wt.args hl hh.2.2 hel⟩
       obtain ⟨w2,hw2,hwt⟩:=hwt
       obtain ⟨r1,h1⟩:=ihw w2 (by omega) _ hzz hwt
       cases r1 with
       | none => exact ⟨none,.argsF s a b x y ps _ hx hy h9 k9 hh h1⟩
       | some s1 =>
        have hsp:=rsol_spec h1 hs hzz
        rcases rsol_uns h1 hs hzz s1 rfl with rfl | hlt
        ·obtain ⟨r,hr'⟩:=ihw w' (by omega) ps hp' hw'
         exact ⟨r,.args _ a b x y _ ps r _ hx hy h9 k9 hh h1 hr'⟩
        ·obtain ⟨r,hr'⟩:=low s1 hlt hsp.2.1 hsp.1 (rsol_ranked h1 hs hr hzz s1 rfl) ps hp'
         exact ⟨r,.args s a b x y s1 ps r _ hx hy h9 k9 hh h1 hr'⟩
      ·exact ⟨none,.clash s a b x y ps _ hx hy h9 k9 hh⟩
end Un
open Go.RowKit Go.Lib
open Un (kd nm ar)
namespace Un
theorem ap_ap (θ φ : Int → Ty) : ∀ t,ap θ (ap φ t) = ap (fun v => ap θ (φ v)) t:=by
 refine Un.Ty.ind fun k i al ih => ?_
 by_cases h9 : k = 9
 ·rw [ap_eq φ,if_pos (show kd (Ty.mk k i al) = 9 from h9),ap_eq _ (Ty.mk k i al),if_pos (show kd (Ty.mk k i al) = 9 from h9)]
 ·rw [ap_mk h9,ap_mk h9,ap_mk h9,List.map_map]
  exact congrArg (Ty.mk k i) (List.map_congr_left fun a ha => ih a ha)
theorem ap_congr {θ φ : Int → Ty} : ∀ t,(∀ v,occ v t = true → θ v = φ v) → ap θ t = ap φ t:=by
 refine Un.Ty.ind fun k i al ih => ?_
 intro h
 by_cases h9 : k = 9
 ·rw [ap_eq,if_pos (show kd (Ty.mk k i al) = 9 from h9),ap_eq φ,if_pos (show kd (Ty.mk k i al) = 9 from h9)]
  exact h _ (occ_self h9)
 ·rw [ap_mk h9,ap_mk h9]
  exact congrArg (Ty.mk k i) (List.map_congr_left fun a ha => ih a ha fun v hv => h v (by rw [occ_mk h9,List.any_eq_true];exact ⟨a,ha,hv⟩))
def ren (fr : Nat → Nat) (v : Int) : Ty:=var (fr v.toNat)
theorem ren_over {n : Nat} {fr : Nat → Nat} : ∀ t,over n t = true → (∀ v : Int,occ v t = true → fr v.toNat < n) → over n (ap (ren fr) t) = true:=by
 refine Un.Ty.ind fun k i al ih => ?_
 intro h ho
 by_cases h9 : k = 9
 ·rw [ap_eq,if_pos (show kd (Ty.mk k i al) = 9 from h9),over_eq,if_pos (show kd (ren fr (nm (Ty.mk k i al))) = 9 from rfl)]
  have:=ho _ (occ_self (t:=Ty.mk k i al) h9)
  simp only [Bool.and_eq_true,decide_eq_true_eq]
  exact ⟨⟨by show (0 : Int) ≤ (fr _ : Int);omega,by show ((fr _ : Nat) : Int) < n;omega⟩,rfl⟩
 ·rw [over_mk h9,Bool.and_eq_true,List.all_eq_true] at h
  rw [ap_mk h9,over_mk h9,Bool.and_eq_true,List.all_eq_true]
  refine ⟨h.1,fun a ha => ?_⟩
  obtain ⟨b,hb,rfl⟩:=List.mem_map.1 ha
  exact ih b hb (h.2 b hb) fun v hv => ho v (by rw [occ_mk h9,List.any_eq_true];exact ⟨b,hb,hv⟩)
theorem ren_occ {fr : Nat → Nat} {v : Int} : ∀ t,occ v (ap (ren fr) t) = true → ∃ u : Int,occ u t = true ∧ v = fr u.toNat:=by
 refine Un.Ty.ind fun k i al ih => ?_
 intro h
 by_cases h9 : k = 9
 ·rw [ap_eq,if_pos (show kd (Ty.mk k i al) = 9 from h9)] at h
  unfold ren at h
  rw [occ_var] at h
  exact ⟨_,occ_self (t:=Ty.mk k i al) h9,(by simpa using h : _ = v).symm⟩
 ·rw [ap_mk h9,occ_mk h9,List.any_eq_true] at h
  obtain ⟨a,ha,hv⟩:=h
  obtain ⟨b,hb,rfl⟩:=List.mem_map.1 ha
  obtain ⟨u,h1,h2⟩:=ih b hb hv
  exact ⟨u,by rw [occ_mk h9,List.any_eq_true];exact ⟨b,hb,h1⟩,h2⟩
structure Least (s : List Ty) (fr : Nat → Nat) (L : List Ty) : Prop where
 len : L.length = s.length
 low : ∀ v : Nat,s[v]? = some zero → fr v < s.length ∧ Res s (var (fr v)) (var v) ∧ ∀ i : Nat,i < s.length → Res s (var i) (var v) → fr v ≤ i
 el : ∀ i : Nat,i < s.length → ∃ z,Res s (var i) z ∧ ((ap (ren fr) z = var i ∧ L[i]? = some zero) ∨ (ap (ren fr) z ≠ var i ∧ L[i]? = some (ap (ren fr) z)))
theorem Res.left0 {s : List Ty} (hs : Okl s) {t z : Ty} (h : Res s t z) {v : Int} (ho : occ v z = true) : ∃ n : Nat,v = n ∧ s[n]? = some zero:=by
 obtain ⟨n,x,h1,h2,h3⟩:=h.left v ho
 refine ⟨n,h1,?_⟩
 rcases hs x (List.mem_of_getElem? h2) with rfl | h4
 ·exact h2
 ·rw [over_uns h4] at h3;cases h3
theorem over_nat {n i : Nat} (h : i < n) : over n (var i) = true:=by
 rw [over_eq,if_pos (show kd (var i) = 9 from rfl)]
 simp only [Bool.and_eq_true,decide_eq_true_eq]
 exact ⟨⟨by show (0 : Int) ≤ (i : Int);omega,by show (i : Int) < n;omega⟩,rfl⟩
theorem Okl.hel {s : List Ty} (hs : Okl s) : ∀ x ∈ s,unsolved x = true ∨ over s.length x = true:=fun x hx => (hs x hx).imp (fun h => by subst h;rfl) id
theorem Least.canon {s L : List Ty} {fr : Nat → Nat} (hs : Okl s) (h : Least s fr L) : Canon s.length L:=by
 refine ⟨h.len,fun j x hx => ?_⟩
 have hj : j < s.length:=by rw [← h.len];exact (List.getElem?_eq_some_iff.1 hx).1
 obtain ⟨z,hz,h1⟩:=h.el j hj
 rcases h1 with ⟨_,h1⟩ | ⟨hne,h1⟩
 ·rw [hx] at h1;exact .inl (by injection h1)
 ·rw [hx] at h1
  injection h1 with h1
  subst h1
  right
  have hzo:=Res.over hz hs.hel (over_nat hj)
  have hfr : ∀ v : Int,occ v z = true → fr v.toNat < s.length:=fun v hv => by
   obtain ⟨m,rfl,hm⟩:=hz.left0 hs hv
   exact (h.low m hm).1
  have ho:=ren_over z hzo hfr
  refine ⟨over_uns ho,vin_of_over _ _ ho,fun v hv => ?_,fun h9 => ?_⟩
  ·obtain ⟨u,hu,rfl⟩:=ren_occ z hv
   obtain ⟨m,rfl,hm⟩:=hz.left0 hs hu
   refine ⟨fr m,zero,rfl,?_,rfl⟩
   obtain ⟨a1,a2,_⟩:=h.low m hm
   obtain ⟨z',hz',h2⟩:=h.el (fr m) a1
   have:=Res.det hz' a2
   subst this
   rcases h2 with ⟨_,h2⟩ | ⟨h2,_⟩
   ·exact h2
   ·exact absurd (by rw [ap_var];rfl) h2
  ·have z9:=ap_kd h9
   obtain ⟨m,hm1,hm⟩:=hz.left0 hs (occ_self z9)
   have hzv:=(over_var hzo z9).2.2
   rw [hm1] at hzv
   subst hzv
   obtain ⟨a1,a2,a3⟩:=h.low m hm
   have h4:=a3 j hj hz
   rw [ap_var] at hne ⊢
   show ((fr m : Nat) : Int) < j
   have : fr m ≠ j:=fun he => hne (by show var ((fr m : Nat) : Int) = var j;rw [he])
   omega
theorem Res.back {s : List Ty} {t r : Ty} (h : Res s t r) {θ : Int → Ty} (hθ : ∀ (i : Nat) (z : Ty),i < s.length → Res s (var i) z → Un.ap θ z = θ i) (hs : Okl s) : Un.over s.length t = true → Un.ap θ r = Un.ap θ t:=by
 induction h with
 | uns t n x h9 hn hx hu => intro _;rfl
 | sol t n x r h9 hn hx hu h ih =>
  intro ht
  have e:=(over_var ht h9).2.2
  rw [hn] at e
  rw [e,ap_var]
  exact hθ n r (List.getElem?_eq_some_iff.1 hx).1 (.sol _ n x r rfl rfl hx hu h)
 | str k i al rs h9 hl h ih =>
  intro ht
  rw [over_mk h9,Bool.and_eq_true,List.all_eq_true] at ht
  rw [ap_mk h9,ap_mk h9]
  refine congrArg (Ty.mk k i) (List.ext_getElem? fun j => ?_)
  rw [List.getElem?_map,List.getElem?_map]
  by_cases hj : j < al.length
  ·have a1:=List.getElem?_eq_getElem hj
   have a2:=List.getElem?_eq_getElem (l:=rs) (i:=j) (by omega)
   rw [a1,a2,Option.map_some,Option.map_some,ih j _ _ a1 a2 (ht.2 _ (List.getElem_mem hj))]
  ·rw [List.getElem?_eq_none (by omega),List.getElem?_eq_none (by omega)]
theorem Least.holds {s L : List Ty} {fr : Nat → Nat} (hs : Okl s) (hr : Ranked s) (h : Least s fr L) (θ : Int → Ty) : Holds θ 0 L ↔ Holds θ 0 s:=by
 constructor
 ·intro hθ
  have all : ∀ (i : Nat) (z : Ty),i < s.length → Res s (var i) z → ap θ (ap (ren fr) z) = θ i:=fun i z hi hz => by
   obtain ⟨z',hz',h1⟩:=h.el i hi
   have:=Res.det hz hz'
   subst this
   rcases h1 with ⟨h1,_⟩ | ⟨_,h1⟩
   ·rw [h1,ap_var]
   ·rcases hθ i _ h1 with h2 | h2
    ·have hzo:=Res.over hz hs.hel (over_nat hi)
     rw [over_uns (ren_over z hzo fun v hv => by
      obtain ⟨m,rfl,hm⟩:=hz.left0 hs hv
      exact (h.low m hm).1)] at h2
     cases h2
    ·rw [h2,Nat.zero_add]
  have all2 : ∀ (i : Nat) (z : Ty),i < s.length → Res s (var i) z → ap θ z = θ i:=fun i z hi hz => by
   rw [← all i z hi hz,ap_ap]
   refine ap_congr z fun v hv => ?_
   obtain ⟨m,rfl,hm⟩:=hz.left0 hs hv
   have h1:=all m (var m) (List.getElem?_eq_some_iff.1 hm).1 (res_var hm)
   rw [ap_var] at h1
   exact h1.symm
  intro j x hx
  rcases hs x (List.mem_of_getElem? hx) with rfl | hxo
  ·exact .inl rfl
  ·refine .inr ?_
   obtain ⟨r,hr1⟩:=Res.ex hs.vin hr (vin_of_over _ _ hxo)
   rw [Nat.zero_add,← hr1.back all2 hs hxo]
   exact all2 j r (List.getElem?_eq_some_iff.1 hx).1 (.sol _ j x r rfl rfl hx (over_uns hxo) hr1)
 ·intro hθ j x hx
  have hj : j < s.length:=by rw [← h.len];exact (List.getElem?_eq_some_iff.1 hx).1
  obtain ⟨z,hz,h1⟩:=h.el j hj
  rcases h1 with ⟨_,h1⟩ | ⟨_,h1⟩
  ·rw [hx] at h1;injection h1 with h1;subst h1;exact .inl rfl
  ·rw [hx] at h1
   injection h1 with h1
   subst h1
   right
   have h2:=hz.ap hθ
   rw [ap_var] at h2
   rw [Nat.zero_add,← h2,ap_ap]
   refine ap_congr z fun v hv => ?_
   obtain ⟨m,rfl,hm⟩:=hz.left0 hs hv
   obtain ⟨a1,a2,_⟩:=h.low m hm
   have h3:=a2.ap hθ
   rw [ap_var,ap_var] at h3
   show ap θ (var ((fr m : Nat) : Int)) = θ m
   rw [ap_var,h3]
end Un
open Go.RowKit Go.Lib
open Un (kd nm ar)
namespace Un
theorem res_kd {E : List Ty} {t r : Ty} (h : Res E t r) (h9 : kd t ≠ 9) : kd r = kd t:=by
 cases h with
 | uns t n x h => exact absurd h h9
 | sol t n x r h => exact absurd h h9
 | str k i al rs h => rfl
theorem res_zero {E : List Ty} {r : Ty} (h : Res E zero r) : r = zero:=by
 unfold zero at h
 cases h with
 | uns _ n x h => exact absurd h (by decide)
 | sol _ n x r h => exact absurd h (by decide)
 | str k i al rs h hl =>
  have : rs = []:=List.length_eq_zero_iff.1 (by simpa using hl)
  subst this
  rfl
theorem code_canon {n A : Nat} {ts : List Tm} {out rs : List Ty} (hlen : out.length = n) (hsh : ∀ (j : Nat) (x : Ty),out[j]? = some x → Elem n ts out j x) (hst : St n ts) (hP : ∀ x ∈ ts,Small n A x.t) (hrl : rs.length = n) (hres : ∀ (i : Nat) (x : Ty),rs[i]? = some x → ∃ y,out[i]? = some y ∧ Res out y x) : Canon n rs:=by
 have hel : ∀ (j : Nat) (x : Ty),out[j]? = some x → x = zero ∨ over n x = true:=fun j x hx => by
  rcases hsh j x hx with h | ⟨f,rfl,hf,_⟩ | ⟨i,a,hi,ha,rfl⟩
  ·exact .inl h
  ·have:=(List.getElem?_eq_some_iff.1 hx).1
   exact .inr (over_nat (by omega))
  ·exact .inr (hP a (List.mem_of_getElem? ha)).1
 have hE : ∀ x ∈ out,unsolved x = true ∨ over out.length x = true:=fun x hx => by
  obtain ⟨j,hj⟩:=List.getElem?_of_mem hx
  rw [hlen]
  exact (hel j x hj).imp (fun h => by subst h;rfl) id
 refine ⟨hrl,fun j x hx => ?_⟩
 obtain ⟨y,hy,hr⟩:=hres j x hx
 rcases hel j y hy with rfl | hyo
 ·exact .inl (res_zero hr)
 right
 have hxo : over n x = true:=by
  have:=Res.over hr hE (by rw [hlen];exact hyo)
  rw [hlen] at this
  exact this
 refine ⟨over_uns hxo,vin_of_over _ _ hxo,fun v hv => ?_,fun h9 => ?_⟩
 ·obtain ⟨m,z,rfl,hz,hu⟩:=hr.left v hv
  have hz0 : z = zero:=by
   rcases hel m z hz with h | h
   ·exact h
   ·rw [over_uns h] at hu;cases hu
  subst hz0
  have hm : m < n:=by rw [← hlen];exact (List.getElem?_eq_some_iff.1 hz).1
  obtain ⟨w,hw⟩ : ∃ w,rs[m]? = some w:=⟨_,List.getElem?_eq_getElem (by omega)⟩
  obtain ⟨y',hy',hr'⟩:=hres m w hw
  rw [hz] at hy'
  injection hy' with hy'
  subst hy'
  exact ⟨m,w,rfl,hw,by rw [res_zero hr'];rfl⟩
 ·rcases hsh j y hy with rfl | ⟨f,rfl,hf,z,hz,hz9⟩ | ⟨i,a,hi,ha,rfl⟩
  ·rw [res_zero hr] at h9;exact absurd h9 (by decide)
  ·have hvf : ∃ t,t = var (f : Int):=⟨_,rfl⟩
   obtain ⟨t,ht⟩:=hvf
   rw [← ht] at hr
   cases hr with
   | str k i al rs h => exact absurd (by injection ht) h
   | uns _ n' x' h hn hx' hu => rw [ht];show ((f : Nat) : Int) < j;omega
   | sol _ n' x' r h hn hx' hu hr2 =>
    have e : f = n':=by
     have : ((f : Nat) : Int) = n':=by rw [ht] at hn;exact hn
     omega
    subst e
    rw [hz] at hx'
    injection hx' with hx'
    subst hx'
    rw [res_kd hr2 hz9] at h9
    exact absurd h9 hz9
  ·have h1:=(hst.nv i a hi ha).1
   rw [res_kd hr h1] at h9
   exact absurd h9 h1
end Un
end Go.Proofs.Ytcdlnhfgehhkcaa
