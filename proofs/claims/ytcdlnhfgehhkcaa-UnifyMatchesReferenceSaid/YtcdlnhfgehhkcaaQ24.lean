/- part of the proof -/
import Derived.Test.YtcdlnhfgehhkcaaQ19
import Derived.Test.YtcdlnhfgehhkcaaQ20
import Derived.Test.YtcdlnhfgehhkcaaQ13
import Derived.Test.YtcdlnhfgehhkcaaQ23
import Derived.Test.YtcdlnhfgehhkcaaQ18
set_option linter.unusedVariables false
set_option linter.unusedSimpArgs false
set_option linter.unusedSectionVars false
namespace Go.Proofs.Ytcdlnhfgehhkcaa
namespace Un
mutual
def occ (v : Int) : Ty → Bool
 | .mk k i al => if k = 9 then i == v else occs v al
def occs (v : Int) : List Ty → Bool
 | [] => false
 | a :: r => occ v a || occs v r
end
theorem occs_any (v : Int) : ∀ l,occs v l = l.any (occ v)
 | [] => by rw [occs];rfl
 | a :: r => by rw [occs,occs_any v r];rfl
theorem occ_eq (v : Int) (t : Ty) : occ v t = if kd t = 9 then nm t == v else (ar t).any (occ v):=by cases t;rw [occ,occs_any];rfl
theorem above_occ (v : Int) : ∀ (t : Ty) (f : Int → Option Int) (lv : Int),(above t f lv v).isSome = ((f v).isSome || occ v t):=by
 refine Un.Ty.ind fun k x al ih => ?_
 intro f lv
 rw [above_eq,occ_eq]
 by_cases h : kd (Ty.mk k x al) = 9
 ·rw [if_pos h,if_pos h]
  unfold upd
  by_cases e : v = nm (Ty.mk k x al)
  ·rw [if_pos e];simp [e]
  ·rw [if_neg e]
   have : (nm (Ty.mk k x al) == v) = false:=by simp;exact fun h => e h.symm
   rw [this];simp
 ·rw [if_neg h,if_neg h]
  have key : ∀ (l : List Ty),(∀ a ∈ l,a ∈ al) → ∀ (f : Int → Option Int),(aboves l f (lv + 1) v).isSome = ((f v).isSome || l.any (occ v)):=by
   intro l
   induction l with
   | nil => intro _ f;rw [aboves];simp
   | cons a r ihr =>
    intro hm f
    rw [aboves,ihr (fun b hb => hm b (by simp [hb])),ih a (hm a (by simp)),List.any_cons,Bool.or_assoc]
  exact key al (fun a h => h) f
theorem vars_occ {s : List Ty} {e : Nat} {t : Ty} (h : s[e]? = some t) (v : Int) : (vars s e v).isSome = occ v t:=by
 unfold vars
 rw [h]
 simp only
 rw [above_occ];simp
theorem ap_mk {θ : Int → Ty} {k i : Int} {al : List Ty} (h : k ≠ 9) : ap θ (.mk k i al) = .mk k i (al.map (ap θ)):=by rw [ap_eq,if_neg (show ¬ kd (Ty.mk k i al) = 9 from h)];rfl
theorem occ_mk {v k i : Int} {al : List Ty} (h : k ≠ 9) : occ v (.mk k i al) = al.any (occ v):=by rw [occ_eq,if_neg (show ¬ kd (Ty.mk k i al) = 9 from h)];rfl
theorem vin_mk {n k i : Int} {al : List Ty} (h : k ≠ 9) : vin n (.mk k i al) = al.all (vin n):=by rw [vin_eq,if_neg (show ¬ kd (Ty.mk k i al) = 9 from h)];rfl
theorem over_mk {n k i : Int} {al : List Ty} (h : k ≠ 9) : over n (.mk k i al) = ((decide (1 ≤ k) && decide (k < 9)) && al.all (over n)):=by rw [over_eq,if_neg (show ¬ kd (Ty.mk k i al) = 9 from h)];rfl
inductive Res (E : List Ty) : Ty → Ty → Prop
 | uns (t : Ty) (n : Nat) (x : Ty) (h9 : kd t = 9) (hn : nm t = n) (hx : E[n]? = some x) (hu : unsolved x = true) : Res E t t
 | sol (t : Ty) (n : Nat) (x r : Ty) (h9 : kd t = 9) (hn : nm t = n) (hx : E[n]? = some x) (hu : unsolved x = false) (hr : Res E x r) : Res E t r
 | str (k i : Int) (al rs : List Ty) (h9 : k ≠ 9) (hl : rs.length = al.length) (h : ∀ (m : Nat) (a r : Ty),al[m]? = some a → rs[m]? = some r → Res E a r) : Res E (.mk k i al) (.mk k i rs)
theorem Res.det {E : List Ty} {t r : Ty} (h : Res E t r) : ∀ {r' : Ty},Res E t r' → r = r':=by
 induction h with
 | uns t n x h9 hn hx hu =>
  intro r' h'
  cases h' with
  | uns => rfl
  | sol _ n' x' _ h9' hn' hx' hu' _ =>
   obtain rfl : n' = n:=by omega
   rw [hx] at hx'
   cases hx'
   rw [hu] at hu';cases hu'
  | str k i al rs h9' => exact absurd h9 h9'
 | sol t n x r h9 hn hx hu hr ih =>
  intro r' h'
  cases h' with
  | uns _ n' x' h9' hn' hx' hu' =>
   obtain rfl : n' = n:=by omega
   rw [hx] at hx'
   cases hx'
   rw [hu] at hu';cases hu'
  | sol _ n' x' _ h9' hn' hx' hu' hr' =>
   obtain rfl : n' = n:=by omega
   rw [hx] at hx'
   cases hx'
   exact ih hr'
  | str k i al rs h9' => exact absurd h9 h9'
 | str k i al rs h9 hl h ih =>
  intro r' h'
  cases h' with
  | uns _ _ _ h9' => exact absurd h9' h9
  | sol _ _ _ _ h9' => exact absurd h9' h9
  | str _ _ _ rs' _ hl' h2 =>
   have : rs = rs':=by
    refine List.ext_getElem? fun j => ?_
    by_cases hj : j < al.length
    ·have a1:=List.getElem?_eq_getElem hj
     have a2:=List.getElem?_eq_getElem (l:=rs) (i:=j) (by omega)
     have a3:=List.getElem?_eq_getElem (l:=rs') (i:=j) (by omega)
     rw [a2,a3,ih j _ _ a1 a2 (h2 j _ _ a1 a3)]
    ·rw [List.getElem?_eq_none (by omega),List.getElem?_eq_none (by omega)]
   rw [this]
def Rk (E : List Ty) (rk : Nat → Nat) : Prop:=∀ (e v : Nat) (x : Ty),E[e]? = some x → v < E.length → occ v x = true → rk v < rk e
theorem Ranked.rk {E : List Ty} (h : Ranked E) : ∃ rk,Rk E rk:=by
 obtain ⟨rk,hr⟩:=h
 exact ⟨rk,fun e v x hx hv ho => hr e v (List.getElem?_eq_some_iff.1 hx).1 hv (by rw [vars_occ hx];exact ho)⟩
theorem Rk.ranked {E : List Ty} {rk : Nat → Nat} (h : Rk E rk) : Ranked E:=
 ⟨rk,fun e v he hv hs => h e v _ (List.getElem?_eq_getElem he) hv (by rw [vars_occ (List.getElem?_eq_getElem he)] at hs;exact hs)⟩
theorem vin_var {n : Int} {t : Ty} (h : vin n t = true) (h9 : kd t = 9) : 0 ≤ nm t ∧ nm t < n ∧ ar t = []:=by
 rw [vin_eq,if_pos h9] at h
 simp only [Bool.and_eq_true,decide_eq_true_eq,List.isEmpty_iff] at h
 exact ⟨h.1.1,h.1.2,h.2⟩
theorem ty_var {t : Ty} (h9 : kd t = 9) (ha : ar t = []) : t = var (nm t):=by
 cases t with
 | mk k i al => simp only [kd,ar] at h9 ha;subst h9;subst ha;rfl
theorem occ_self {t : Ty} (h9 : kd t = 9) : occ (nm t) t = true:=by rw [occ_eq,if_pos h9];simp
def Vin (E : List Ty) : Prop:=∀ x ∈ E,vin E.length x = true
theorem res_total {E : List Ty} {rk : Nat → Nat} (hv : Vin E) (hr : Rk E rk) : ∀ (m : Nat) (t : Ty),vin E.length t = true → (∀ v : Nat,v < E.length → occ v t = true → rk v < m) → ∃ r,Res E t r:=by
 intro m
 induction m with
 | zero =>
  refine Un.Ty.ind fun k i al ih => ?_
  intro ht ho
  by_cases h9 : kd (Ty.mk k i al) = 9
  ·obtain ⟨a,b,_⟩:=vin_var ht h9
   have:=ho (nm (Ty.mk k i al)).toNat (by omega) (by rw [Int.toNat_of_nonneg a];exact occ_self h9)
   omega
  ·rw [vin_eq,if_neg h9] at ht
   simp only [List.all_eq_true] at ht
   have h1 : ∀ a ∈ al,∃ r,Res E a r:=fun a ha => ih a ha (ht a ha) (fun v hv' hoc => ho v hv' (by rw [occ_eq,if_neg h9,List.any_eq_true];exact ⟨a,ha,hoc⟩))
   refine ⟨.mk k i (al.attach.map fun a => Classical.choose (h1 a.1 a.2)),.str k i al _ h9 (by simp) (fun j a r ha hr' => ?_)⟩
   rw [List.getElem?_map,List.getElem?_attach,Option.map_eq_some_iff] at hr'
   obtain ⟨⟨b,hb⟩,h2,rfl⟩:=hr'
   have : b = a:=by
    have h3:=congrArg (Option.map Subtype.val) h2
    simpa [ha] using h3.symm
   subst this
   exact Classical.choose_spec (h1 b hb)
 | succ m ihm =>
  refine Un.Ty.ind fun k i al ih => ?_
  intro ht ho
  by_cases h9 : kd (Ty.mk k i al) = 9
  ·obtain ⟨a,b,_⟩:=vin_var ht h9
   obtain ⟨n,hn⟩ : ∃ n : Nat,nm (Ty.mk k i al) = n:=⟨(nm (Ty.mk k i al)).toNat,by omega⟩
   have hnl : n < E.length:=by omega
   have hx:=List.getElem?_eq_getElem hnl
   have hself:=occ_self h9
   rw [hn] at hself
   by_cases hu : unsolved E[n] = true
   ·exact ⟨_,.uns _ n _ h9 hn hx hu⟩
   ·obtain ⟨r,hr'⟩:=ihm E[n] (hv _ (List.getElem_mem hnl)) (fun v hv' hoc => by
     have h1:=hr n v _ hx hv' hoc
     have h2:=ho n hnl hself
     omega)
    exact ⟨r,.sol _ n _ r h9 hn hx (by simpa using hu) hr'⟩
  ·rw [vin_eq,if_neg h9] at ht
   simp only [List.all_eq_true] at ht
   have h1 : ∀ a ∈ al,∃ r,Res E a r:=fun a ha => ih a ha (ht a ha) (fun v hv' hoc => ho v hv' (by rw [occ_eq,if_neg h9,List.any_eq_true];exact ⟨a,ha,hoc⟩))
   refine ⟨.mk k i (al.attach.map fun a => Classical.choose (h1 a.1 a.2)),.str k i al _ h9 (by simp) (fun j a r ha hr' => ?_)⟩
   rw [List.getElem?_map,List.getElem?_attach,Option.map_eq_some_iff] at hr'
   obtain ⟨⟨b,hb⟩,h2,rfl⟩:=hr'
   have : b = a:=by
    have h3:=congrArg (Option.map Subtype.val) h2
    simpa [ha] using h3.symm
   subst this
   exact Classical.choose_spec (h1 b hb)
theorem rk_bound {E : List Ty} (rk : Nat → Nat) : ∃ m,∀ v,v < E.length → rk v < m:=by
 have : ∀ n,∃ m,∀ v,v < n → rk v < m:=by
  intro n
  induction n with
  | zero => exact ⟨0,fun v hv => by omega⟩
  | succ n ih =>
   obtain ⟨m,hm⟩:=ih
   exact ⟨max m (rk n + 1),fun v hv => by
    by_cases e : v = n
    ·subst e;omega
    ·have:=hm v (by omega);omega⟩
 exact this _
theorem Res.ex {E : List Ty} (hv : Vin E) (hr : Ranked E) {t : Ty} (ht : vin E.length t = true) : ∃ r,Res E t r:=by
 obtain ⟨rk,hk⟩:=hr.rk
 obtain ⟨m,hm⟩:=rk_bound (E:=E) rk
 exact res_total hv hk m t ht (fun v h _ => hm v h)
theorem Res.ap {E : List Ty} {t r : Ty} (h : Res E t r) {θ : Int → Ty} (hθ : Holds θ 0 E) : Un.ap θ r = Un.ap θ t:=by
 induction h with
 | uns => rfl
 | sol t n x r h9 hn hx hu hr ih =>
  rw [ih,ap_eq θ t,if_pos h9,hn]
  have:=(hθ n x hx).resolve_left (by simp [hu])
  rw [this,Nat.zero_add]
 | str k i al rs h9 hl h ih =>
  rw [ap_mk h9,ap_mk h9]
  have : rs.map (Un.ap θ) = al.map (Un.ap θ):=by
   refine List.ext_getElem? fun j => ?_
   rw [List.getElem?_map,List.getElem?_map]
   by_cases hj : j < al.length
   ·have a1:=List.getElem?_eq_getElem hj
    have a2:=List.getElem?_eq_getElem (l:=rs) (i:=j) (by omega)
    rw [a1,a2,Option.map_some,Option.map_some,ih j _ _ a1 a2]
   ·rw [List.getElem?_eq_none (by omega),List.getElem?_eq_none (by omega)]
  rw [this]
theorem Res.over {E : List Ty} {t r : Ty} (h : Res E t r) (hE : ∀ x ∈ E,unsolved x = true ∨ over E.length x = true) : over E.length t = true → over E.length r = true:=by
 induction h with
 | uns => exact id
 | sol t n x r h9 hn hx hu hr ih =>
  intro _
  exact ih ((hE x (List.mem_of_getElem? hx)).resolve_left (by simp [hu]))
 | str k i al rs h9 hl h ih =>
  intro ht
  rw [over_mk h9] at ht ⊢
  simp only [Bool.and_eq_true,List.all_eq_true] at ht ⊢
  refine ⟨ht.1,fun x hx => ?_⟩
  obtain ⟨j,hj⟩:=List.mem_iff_getElem?.1 hx
  have hjl:=(List.getElem?_eq_some_iff.1 hj).1
  have a1:=List.getElem?_eq_getElem (l:=al) (i:=j) (by omega)
  exact ih j _ _ a1 hj (ht.2 _ (List.mem_of_getElem? a1))
theorem Res.left {E : List Ty} {t r : Ty} (h : Res E t r) : ∀ v : Int,occ v r = true → ∃ (n : Nat) (x : Ty),v = n ∧ E[n]? = some x ∧ unsolved x = true:=by
 induction h with
 | uns t n x h9 hn hx hu =>
  intro v hv
  rw [occ_eq,if_pos h9] at hv
  have : nm t = v:=by simpa using hv
  exact ⟨n,x,by omega,hx,hu⟩
 | sol t n x r h9 hn hx hu hr ih => exact ih
 | str k i al rs h9 hl h ih =>
  intro v hv
  rw [occ_mk h9,List.any_eq_true] at hv
  obtain ⟨x,hx,ho⟩:=hv
  obtain ⟨j,hj⟩:=List.mem_iff_getElem?.1 hx
  have hjl:=(List.getElem?_eq_some_iff.1 hj).1
  have a1:=List.getElem?_eq_getElem (l:=al) (i:=j) (by omega)
  exact ih j _ _ a1 hj v ho
theorem holds_ex {E : List Ty} (hv : Vin E) (hr : Ranked E) : ∃ θ,Holds θ 0 E ∧ ∀ t r,vin E.length t = true → Res E t r → ap θ t = r:=by
 classical
 refine ⟨fun v => if h : ∃ r,Res E (var v) r then Classical.choose h else var v,?_⟩
 have hch : ∀ v r,Res E (var v) r → (if h : ∃ r,Res E (var v) r then Classical.choose h else var v) = r:=fun v r h => by
  have hex : ∃ r,Res E (var v) r:=⟨r,h⟩
  rw [dif_pos hex]
  exact (Classical.choose_spec hex).det h
 have key : ∀ t r,Res E t r → vin E.length t = true → ap (fun v => if h : ∃ r,Res E (var v) r then Classical.choose h else var v) t = r:=by
  intro t r h
  induction h with
  | uns t n x h9 hn hx hu =>
   intro ht
   have e:=ty_var h9 (vin_var ht h9).2.2
   rw [ap_eq,if_pos h9]
   refine hch _ _ ?_
   rw [← e]
   exact .uns t n x h9 hn hx hu
  | sol t n x r h9 hn hx hu hr' ih =>
   intro ht
   have e:=ty_var h9 (vin_var ht h9).2.2
   rw [ap_eq,if_pos h9]
   refine hch _ _ ?_
   rw [← e]
   exact .sol t n x r h9 hn hx hu hr'
  | str k i al rs h9 hl h ih =>
   intro ht
   rw [vin_mk h9,List.all_eq_true] at ht
   rw [ap_mk h9]
   have : al.map (ap (fun v => if h : ∃ r,Res E (var v) r then Classical.choose h else var v)) = rs:=by
    refine List.ext_getElem? fun j => ?_
    rw [List.getElem?_map]
    by_cases hj : j < al.length
    ·have a1:=List.getElem?_eq_getElem hj
     have a2:=List.getElem?_eq_getElem (l:=rs) (i:=j) (by omega)
     rw [a1,a2,Option.map_some,ih j _ _ a1 a2 (ht _ (List.getElem_mem hj))]
    ·rw [List.getElem?_eq_none (by omega),List.getElem?_eq_none (by omega)];rfl
   rw [this]
 refine ⟨fun j x hx => ?_,fun t r ht h => key t r h ht⟩
 by_cases hu : unsolved x = true
 ·exact .inl hu
 ·right
  have hxv:=hv x (List.mem_of_getElem? hx)
  obtain ⟨r,h1⟩:=Res.ex hv hr hxv
  rw [key x r h1 hxv]
  simp only
  rw [Nat.zero_add]
  exact (hch _ _ (.sol (var j) j x r rfl rfl hx (by simpa using hu) h1)).symm
theorem endT_res {E : List Ty} {t r : Ty} (h : Res E t r) : ∃ f y,endT E f t = some y ∧ Res E y r ∧ (kd y = 9 → y = r):=by
 induction h with
 | uns t n x h9 hn hx hu => exact ⟨1,t,endT_uns h9 hn hx hu,.uns t n x h9 hn hx hu,fun _ => rfl⟩
 | sol t n x r h9 hn hx hu hr ih =>
  obtain ⟨f,y,h1,h2,h3⟩:=ih
  exact ⟨f + 1,y,by rw [endT_sol h9 hn hx hu];exact h1,h2,h3⟩
 | str k i al rs h9 hl h ih => exact ⟨1,_,endT_no h9,.str k i al rs h9 hl h,fun h => absurd h h9⟩
theorem mapS_mono {σ : Type} {p q : σ → Ty → Option (σ × Option Ty)} (h : ∀ s t r,p s t = some r → q s t = some r) : ∀ (t : Ty) (s : σ) (r : σ × Ty),mapS p s t = some r → mapS q s t = some r:=by
 refine Un.Ty.ind fun k i al ih => ?_
 intro s r hr
 rw [mapS] at hr ⊢
 cases h1 : p s (Ty.mk k i al) with
 | none => simp [h1] at hr
 | some z =>
  obtain ⟨s',o⟩:=z
  rw [h1] at hr
  rw [h _ _ _ h1]
  cases o with
  | some t' => exact hr
  | none =>
   simp only at hr ⊢
   have key : ∀ (l : List Ty),(∀ a ∈ l,a ∈ al) → ∀ (s : σ) (r : σ × List Ty),mapSs p s l = some r → mapSs q s l = some r:=by
    intro l
    induction l with
    | nil => intro _ s r h;rw [mapSs] at h ⊢;exact h
    | cons a l ihl =>
     intro hm s r h
     rw [mapSs] at h ⊢
     cases h2 : mapS p s a with
     | none => simp [h2] at h
     | some z =>
      rw [h2] at h
      rw [ih a (hm a (by simp)) s z h2]
      obtain ⟨s2,b⟩:=z
      simp only at h ⊢
      cases h3 : mapSs p s2 l with
      | none => simp [h3] at h
      | some y =>
       rw [h3] at h
       rw [ihl (fun b hb => hm b (by simp [hb])) s2 y h3]
       exact h
   cases h4 : mapSs p s' al with
   | none => simp [h4] at hr
   | some y =>
    rw [h4] at hr
    rw [key al (fun a h => h) s' y h4]
    exact hr
theorem appStepG_mono {E : List Ty} {fe ge : Nat} (hg : fe ≤ ge) {p q : Ty → Option Ty} (h : ∀ t r,p t = some r → q t = some r) {a : Ty} {r : Unit × Option Ty} (hr : appStepG E fe p a = some r) : appStepG E ge q a = some r:=by
 rcases appStepG_cases hr with ⟨h9,rfl⟩ | ⟨n,x,h9,hn,hx,hu,rfl⟩ | ⟨n,x,y,z,h9,hn,hx,hu,hy,hz,rfl⟩
 ·unfold appStepG;rw [if_neg h9]
 ·unfold appStepG;rw [if_pos h9,if_pos (by omega),hn,Int.toNat_natCast,hx];simp only;rw [if_pos hu]
 ·unfold appStepG
  rw [if_pos h9,if_pos (by omega),hn,Int.toNat_natCast,hx]
  simp only
  rw [if_neg (by simp [hu]),endT_mono hy hg]
  simp only
  rw [h y z hz]
theorem appG_mono {E : List Ty} {fe ge : Nat} (he : fe ≤ ge) : ∀ {f g : Nat} {t r : Ty},appG E fe f t = some r → f ≤ g → appG E ge g t = some r
 | 0,g,t,r,h,_ => by simp [appG] at h
 | f + 1,0,t,r,h,hg => by omega
 | f + 1,g + 1,t,r,h,hg => by
  rw [appG] at h ⊢
  cases h1 : mapS (fun (_ : Unit) a => appStepG E fe (appG E fe f) a) () t with
  | none => simp [h1] at h
  | some z =>
   rw [h1] at h
   rw [mapS_mono (q:=fun (_ : Unit) a => appStepG E ge (appG E ge g) a) (fun _ a r hr => appStepG_mono he (fun t r h => appG_mono he h (by omega)) hr) t () z h1]
   exact h
theorem mapS_var {σ : Type} {p : σ → Ty → Option (σ × Option Ty)} {s : σ} {t : Ty} (ha : ar t = []) : mapS p s t = match p s t with
  | none => none
  | some (s',some r) => some (s',r)
  | some (s',none) => some (s',t):=by
 cases t with
 | mk k i al =>
  simp only [ar] at ha
  subst ha
  rw [mapS]
  cases p s (Ty.mk k i []) with
  | none => rfl
  | some z =>
   obtain ⟨s',o⟩:=z
   cases o with
   | some r => rfl
   | none => simp only;rw [mapSs]
theorem appG_res {E : List Ty} {t r : Ty} (h : Res E t r) (ht : vin E.length t = true) (hE : Vin E) : ∃ fe f,appG E fe (f + 1) t = some r:=by
 induction h with
 | uns t n x h9 hn hx hu =>
  refine ⟨0,0,?_⟩
  have ha:=(vin_var ht h9).2.2
  have e:=ty_var h9 ha
  have hs : appStepG E 0 (appG E 0 0) t = some ((),none):=by unfold appStepG;rw [if_pos h9,if_pos (by omega),hn,Int.toNat_natCast,hx];simp only;rw [if_pos hu]
  rw [appG]
  have : mapS (fun (_ : Unit) a => appStepG E 0 (appG E 0 0) a) () t = some ((),t):=by
   rw [mapS_var ha,hs]
  rw [this]
 | sol t n x r h9 hn hx hu hr ih =>
  have hxv:=hE x (List.mem_of_getElem? hx)
  obtain ⟨f1,y,hy,hyr,hy9⟩:=endT_res (.sol t n x r h9 hn hx hu hr)
  obtain ⟨fe,f,hf⟩:=ih hxv
  have hyv : vin E.length y = true:=by
   have key : ∀ (f : Nat) (t y : Ty),endT E f t = some y → vin E.length t = true → vin E.length y = true:=by
    intro f
    induction f with
    | zero => intro t y h;simp [endT] at h
    | succ f ihf =>
     intro t y h hv
     obtain ⟨g,hg,hc⟩:=endT_cases h
     rcases hc with ⟨_,rfl⟩ | ⟨m,z,_,_,h3,⟨_,rfl⟩ | ⟨_,h5⟩⟩
     ·exact hv
     ·exact hv
     ·obtain rfl : g = f:=by omega
      exact ihf _ _ h5 (hE z (List.mem_of_getElem? h3))
   exact key f1 t y hy ht
  have hxy : ∃ ge g,appG E ge (g + 1) y = some r:=by
   by_cases h8 : kd x = 9
   ·-- x is a variable: it has the same end
    obtain ⟨g1,hg1,hc⟩:=endT_cases hy
    rcases hc with ⟨h,_⟩ | ⟨m,z,_,hm,hz,⟨hzu,_⟩ | ⟨_,hz5⟩⟩
    ·exact absurd h9 h
    ·obtain rfl : m = n:=by omega
     rw [hx] at hz;cases hz
     rw [hu] at hzu;cases hzu
    ·obtain rfl : m = n:=by omega
     rw [hx] at hz;cases hz
     rw [appG] at hf
     cases h1 : mapS (fun (_ : Unit) a => appStepG E fe (appG E fe f) a) () x with
     | none => simp [h1] at hf
     | some q =>
      rw [h1] at hf
      simp only [Option.some.injEq] at hf
      obtain ⟨u,hq⟩:=q
      simp only at hf
      subst hf
      have h1':=h1
      rw [mapS_var (vin_var hxv h8).2.2] at h1
      cases h2 : appStepG E fe (appG E fe f) x with
      | none => simp [h2] at h1
      | some o =>
       rcases appStepG_cases h2 with ⟨h,_⟩ | ⟨m',x',_,hm',hx',hu',ho⟩ | ⟨m',x',y',z',_,hm',hx',hu',hy',hz',ho⟩
       ·exact absurd h8 h
       ·-- the chain ends at x
        obtain ⟨g2,hg2,hc2⟩:=endT_cases hz5
        rcases hc2 with ⟨h,_⟩ | ⟨m2,z2,_,hm2,hz2,⟨_,e⟩ | ⟨hzu2,_⟩⟩
        ·exact absurd h8 h
        ·rw [e]
         refine ⟨fe,f,?_⟩
         rw [appG,h1']
        ·obtain rfl : m2 = m':=by omega
         rw [hx'] at hz2;cases hz2
         rw [hu'] at hzu2;cases hzu2
       ·rw [h2,ho] at h1
        simp only [Option.some.injEq,Prod.mk.injEq] at h1
        have hyy : y' = y:=by
         have a1:=endT_mono hy' (Nat.le_max_left fe g1)
         have a2:=endT_mono hz5 (Nat.le_max_right fe g1)
         rw [a1] at a2
         exact Option.some.inj a2
        subst hyy
        cases f with
        | zero => simp [appG] at hz'
        | succ f => exact ⟨fe,f,by rw [hz',h1.2]⟩
   ·-- x is the end
    obtain ⟨g1,hg1,hc⟩:=endT_cases hy
    rcases hc with ⟨h,_⟩ | ⟨m,z,_,hm,hz,⟨hzu,_⟩ | ⟨_,hz5⟩⟩
    ·exact absurd h9 h
    ·obtain rfl : m = n:=by omega
     rw [hx] at hz;cases hz
     rw [hu] at hzu;cases hzu
    ·obtain rfl : m = n:=by omega
     rw [hx] at hz;cases hz
     obtain ⟨g2,hg2,hc2⟩:=endT_cases hz5
     rcases hc2 with ⟨_,e⟩ | ⟨_,_,h,_⟩
     ·rw [e];exact ⟨fe,f,hf⟩
     ·exact absurd h h8
  obtain ⟨ge,g,hgg⟩:=hxy
  refine ⟨max ge f1,g + 1,?_⟩
  have ha:=(vin_var ht h9).2.2
  have e:=ty_var h9 ha
  have hs : appStepG E (max ge f1) (appG E (max ge f1) (g + 1)) t = some ((),some r):=by
   unfold appStepG
   rw [if_pos h9,if_pos (by omega),hn,Int.toNat_natCast,hx]
   simp only
   rw [if_neg (by simp [hu]),endT_mono hy (by omega)]
   simp only
   rw [appG_mono (Nat.le_max_left ge f1) hgg (Nat.le_refl _)]
  rw [appG]
  have : mapS (fun (_ : Unit) a => appStepG E (max ge f1) (appG E (max ge f1) (g + 1)) a) () t = some ((),r):=by
   rw [mapS_var ha,hs]
  rw [this]
 | str k i al rs h9 hl h ih =>
  rw [vin_mk h9,List.all_eq_true] at ht
  have hs : ∀ fe f,appStepG E fe (appG E fe f) (Ty.mk k i al) = some ((),none):=fun fe f => by unfold appStepG;rw [if_neg (show ¬ kd (Ty.mk k i al) = 9 from h9)]
  have key : ∀ (l ls : List Ty),ls.length = l.length → (∀ (m : Nat) (a r : Ty),l[m]? = some a → ls[m]? = some r → ∃ fe f,appG E fe (f + 1) a = some r) → ∃ fe f,mapSs (fun (_ : Unit) a => appStepG E fe (appG E fe f) a) () l = some ((),ls):=by
   intro l
   induction l with
   | nil => intro ls hl _;exact ⟨0,0,by rw [mapSs,List.eq_nil_of_length_eq_zero hl]⟩
   | cons a l ihl =>
    intro ls hl hm
    cases ls with
    | nil => simp at hl
    | cons b ls =>
     obtain ⟨fe1,f1,h1⟩:=hm 0 a b rfl rfl
     obtain ⟨fe2,f2,h2⟩:=ihl ls (by simpa using hl) (fun m a r ha hr => hm (m + 1) a r (by simpa using ha) (by simpa using hr))
     refine ⟨max fe1 fe2,max f1 f2,?_⟩
     have h3:=appG_mono (Nat.le_max_left fe1 fe2) h1 (show f1 + 1 ≤ max f1 f2 + 1 by omega)
     rw [appG] at h3
     cases h4 : mapS (fun (_ : Unit) a => appStepG E (max fe1 fe2) (appG E (max fe1 fe2) (max f1 f2)) a) () a with
     | none => simp [h4] at h3
     | some z =>
      rw [h4] at h3
      simp only [Option.some.injEq] at h3
      obtain ⟨u,z⟩:=z
      simp only at h3
      subst h3
      have h5 : mapS (fun (_ : Unit) a => appStepG E (max fe1 fe2) (appG E (max fe1 fe2) (max f1 f2)) a) () (Ty.mk 0 0 l) = some ((),Ty.mk 0 0 ls):=by
       refine mapS_mono (p:=fun (_ : Unit) a => appStepG E fe2 (appG E fe2 f2) a) (fun _ a r hr => appStepG_mono (Nat.le_max_right fe1 fe2) (fun t r h => appG_mono (Nat.le_max_right fe1 fe2) h (Nat.le_max_right f1 f2)) hr) _ () _ ?_
       rw [mapS,show appStepG E fe2 (appG E fe2 f2) (Ty.mk 0 0 l) = some ((),none) by unfold appStepG;rw [if_neg (by simp [kd])]]
       simp only
       rw [h2]
      rw [mapS,show appStepG E (max fe1 fe2) (appG E (max fe1 fe2) (max f1 f2)) (Ty.mk 0 0 l) = some ((),none) by unfold appStepG;rw [if_neg (by simp [kd])]] at h5
      simp only at h5
      rw [mapSs,h4]
      simp only
      cases h6 : mapSs (fun (_ : Unit) a => appStepG E (max fe1 fe2) (appG E (max fe1 fe2) (max f1 f2)) a) () l with
      | none => simp [h6] at h5
      | some w =>
       rw [h6] at h5
       simp only [Option.some.injEq,Prod.mk.injEq,Ty.mk.injEq,true_and] at h5
       simp only [h5]
  obtain ⟨fe,f,h1⟩:=key al rs hl (fun m a r ha hr => ih m a r ha hr (ht a (List.mem_of_getElem? ha)))
  refine ⟨fe,f,?_⟩
  rw [appG,mapS,hs]
  simp only
  rw [h1]
end Un
end Go.Proofs.Ytcdlnhfgehhkcaa
namespace Go.Proofs.Ytcdlnhfgehhkcaa
open Go.RowKit Go.Lib
open Un (kd nm ar size sizes element)
def Un.unifyG (fs f fe fa : Nat) (s : List Ty) (a b : Ty) : Option (Except Int (List Ty)):=
 match Un.wf s with
 | none => none
 | some false => some (.error 1)
 | some true => if (element s.length a && element s.length b) = true then Un.unifiedG fs f fe fa s a b else some (.error 1)
set_option maxRecDepth 100000 in
set_option maxHeartbeats 3200000 in
theorem unifyG_any (A fs f fe fa : Nat) (hA : A ≤ 90000) (hfA : f * A ≤ 800000) (N : Nat → Prop) (s : List Ty) (v : Value) (a b : Ty) (cs ds : List Value) (w : World) (hv : TysV w N s v) (hz : ∀ t ∈ s,size t ≤ A) (hsum : s.length + sizes s + size a + size b ≤ 100000) (h0 : 0 < s.length) (hl : s.length ≤ 900) (wb : Bool) (hwf : Un.wf s = some wb) (ha : TyV w N a cs) (hb : TyV w N b ds) (hsa : size a ≤ A) (hsb : size b ≤ A)
  (r : Except Int (List Ty)) (hr : Un.unifyG fs f fe fa s a b = some r) :
  Calls Try.prog 11 #[v,.agg cs.toArray,.agg ds.toArray] w (UnifyP r w):=by
 have hmf:=run_makeUnify1
 obtain ⟨pa,ka,rfl,_⟩:=ha.shape
 obtain ⟨pb,kb,rfl,_⟩:=hb.shape
 obtain ⟨ps,kp,rfl⟩:=hv.shape
 have HV:=hid hv
 have HZ:=hid hz
 have HA:=hid ha
 have HB:=hid hb
 have HR:=hid hr
 have HW:=hid hwf
 have HS : Hid (∀ t ∈ s,size t ≤ 90000):=hid (fun t ht => by have:=hz t ht;omega)
 obtain ⟨w1,hw1⟩ : ∃ w1,w1 = (((w.alloc (.cells #[.int .i64 (kd a),.int .i64 (nm a),.slice pa (ar a).length ka] 24)).alloc (.cells #[.int .i64 (kd b),.int .i64 (nm b),.slice pb (ar b).length kb] 24)).alloc (.cells #[.slice none 0 0] 22)).alloc (.cells #[.int .i64 0] 36):=⟨_,rfl⟩
 have HF1 : Hid (Fr [] w w1):=hid (by rw [hw1];exact ((((Fr.refl _ _).alloc _).alloc _).alloc _).alloc _)
 have HBA1 : Hid (Blk w1 w.heap.size 24 #[.int .i64 (kd a),.int .i64 (nm a),.slice pa (ar a).length ka]):=hid (by rw [hw1];exact (((Blk.new _ _ _).alloc _).alloc _).alloc _)
 have HBB1 : Hid (Blk w1 (w.heap.size + 1) 24 #[.int .i64 (kd b),.int .i64 (nm b),.slice pb (ar b).length kb]):=hid (by rw [hw1];exact ((Blk.new_at (by simp)).alloc _).alloc _)
 have HBP1 : Hid (Blk w1 (w.heap.size + 1 + 1) 22 #[.slice none 0 0]):=hid (by rw [hw1];exact (Blk.new_at (by simp)).alloc _)
 have HBQ1 : Hid (Blk w1 (w.heap.size + 1 + 1 + 1) 36 #[.int .i64 0]):=hid (by rw [hw1];exact Blk.new_at (by simp))
 clear hv hz ha hb hr hwf
 go_enter_defers Try.func11,Try.ntmps11
 go_wp2_with fail
 rw [← hw1]
 clear hw1
 refine (wf_any N s _ w1 (HV.out.keep0 HF1.out) (by omega) HS.out wb HW.out).mono ?_
 rintro e w2 ⟨rfl,hf2⟩
 have HF2:=hid (HF1.out.trans hf2)
 have HBA2:=hid (HBA1.out.keep hf2 (by simp))
 have HBB2:=hid (HBB1.out.keep hf2 (by simp))
 have HBP2:=hid (HBP1.out.keep hf2 (by simp))
 have HBQ2:=hid (HBQ1.out.keep hf2 (by simp))
 clear hf2 HBA1 HBB1 HBP1 HBQ1
 cases wb with
 | false =>
  have HE0 : Hid (r = .error 1):=hid (by
   have h1:=HR.out
   unfold Un.unifyG at h1
   rw [HW.out] at h1
   simpa using h1.symm)
  go_wp2_with fail
  refine (refuse_yes 1 _).mono ?_
  rintro e w4 ⟨rfl,rfl⟩
  unfold failE
  go_wp2_with fail
  refine door_panic _ _ _ _ 1 _ _ _ rfl rfl HBP2.out HBQ2.out (by omega) ?_
  rw [HE0.out]
  exact ⟨(HF2.out.setCell (.inr (by simp;omega)) _).setCell (.inr (by simp;omega)) _,rfl⟩
 | true =>
  have c0 : w2.cell? ⟨w.heap.size,0,none⟩ = some (.int .i64 (kd a)):=HBA2.out.cell 0
  have c1 : w2.cell? ⟨w.heap.size,1,none⟩ = some (.int .i64 (nm a)):=HBA2.out.cell 1
  have c2 : w2.cell? ⟨w.heap.size,2,none⟩ = some (.slice pa (ar a).length ka):=HBA2.out.cell 2
  have cl : w.heap.size < w2.heap.size:=HBA2.out.lt
  go_wp2_with fail
  refine (element_any N s (by omega) ps kp a _ w2 (HA.out.keep0 HF2.out)).mono ?_
  rintro e w3 ⟨rfl,hf3⟩
  have HF3:=hid (HF2.out.trans hf3)
  have HBA3:=hid (HBA2.out.keep hf3 (by simp))
  have HBB3:=hid (HBB2.out.keep hf3 (by simp))
  have HBP3:=hid (HBP2.out.keep hf3 (by simp))
  have HBQ3:=hid (HBQ2.out.keep hf3 (by simp))
  clear hf3 c0 c1 c2 cl HBA2 HBB2 HBP2 HBQ2
  have HPAN : Hid (∀ (c : Int) (wx : World),r = .error c → Fr [] w3 wx → UnifyP r w (.returned (.tuple #[.slice none 0 0,.int .i64 c])) ((wx.setCell ⟨w.heap.size + 1 + 1,0,none⟩ (.slice none 0 0)).setCell ⟨w.heap.size + 1 + 1 + 1,0,none⟩ (.int .i64 c))):=hid (fun c wx hc hf => by
   subst hc
   exact ⟨((HF3.out.trans hf).setCell (.inr (by simp;omega)) _).setCell (.inr (by simp;omega)) _,rfl⟩)
  cases e1 : element s.length a with
  | false =>
   have HE1 : Hid (r = .error 1):=hid (by
    have h1:=HR.out
    unfold Un.unifyG at h1
    rw [HW.out] at h1
    simp only at h1
    rw [e1] at h1
    simpa using h1.symm)
   clear e1
   go_wp2_with fail
   refine (refuse_yes 1 _).mono ?_
   rintro e w4 ⟨rfl,rfl⟩
   unfold failE
   go_wp2_with fail
   exact door_panic _ _ _ _ 1 _ _ _ rfl rfl HBP3.out HBQ3.out (by omega) (HPAN.out 1 _ HE1.out (Fr.refl _ _))
  | true =>
   have HE1:=hid e1
   have c0 : w3.cell? ⟨w.heap.size + 1,0,none⟩ = some (.int .i64 (kd b)):=HBB3.out.cell 0
   have c1 : w3.cell? ⟨w.heap.size + 1,1,none⟩ = some (.int .i64 (nm b)):=HBB3.out.cell 1
   have c2 : w3.cell? ⟨w.heap.size + 1,2,none⟩ = some (.slice pb (ar b).length kb):=HBB3.out.cell 2
   have cl : w.heap.size + 1 < w3.heap.size:=HBB3.out.lt
   clear e1
   go_wp2_with fail
   refine (element_any N s (by omega) ps kp b _ w3 (HB.out.keep0 HF3.out)).mono ?_
   rintro e w4 ⟨rfl,hf4⟩
   have HF34:=hid hf4
   have HF4:=hid (HF3.out.trans hf4)
   have HBA4:=hid (HBA3.out.keep hf4 (by simp))
   have HBB4:=hid (HBB3.out.keep hf4 (by simp))
   have HBP4:=hid (HBP3.out.keep hf4 (by simp))
   have HBQ4:=hid (HBQ3.out.keep hf4 (by simp))
   clear hf4 c0 c1 c2 cl HBA3 HBB3 HBP3 HBQ3
   cases e2 : element s.length b with
   | false =>
    have HE2 : Hid (r = .error 1):=hid (by
     have h1:=HR.out
     unfold Un.unifyG at h1
     rw [HW.out] at h1
     simp only at h1
     rw [e2] at h1
     simpa using h1.symm)
    clear e2
    go_wp2_with fail
    refine (refuse_yes 1 _).mono ?_
    rintro e w5 ⟨rfl,rfl⟩
    unfold failE
    go_wp2_with fail
    exact door_panic _ _ _ _ 1 _ _ _ rfl rfl HBP4.out HBQ4.out (by omega) (HPAN.out 1 _ HE2.out HF34.out)
   | true =>
    have HU : Hid (Un.unifiedG fs f fe fa s a b = some r):=hid (by
     have h1:=HR.out
     unfold Un.unifyG at h1
     rw [HW.out] at h1
     simp only at h1
     rw [HE1.out,e2] at h1
     simpa using h1)
    clear e2
    go_wp2_with fail
    refine (refuse_no 1 _).mono ?_
    rintro e w5 ⟨rfl,rfl⟩
    have c0 : w4.cell? ⟨w.heap.size,0,none⟩ = some (.int .i64 (kd a)):=HBA4.out.cell 0
    have c1 : w4.cell? ⟨w.heap.size,1,none⟩ = some (.int .i64 (nm a)):=HBA4.out.cell 1
    have c2 : w4.cell? ⟨w.heap.size,2,none⟩ = some (.slice pa (ar a).length ka):=HBA4.out.cell 2
    have c3 : w4.cell? ⟨w.heap.size + 1,0,none⟩ = some (.int .i64 (kd b)):=HBB4.out.cell 0
    have c4 : w4.cell? ⟨w.heap.size + 1,1,none⟩ = some (.int .i64 (nm b)):=HBB4.out.cell 1
    have c5 : w4.cell? ⟨w.heap.size + 1,2,none⟩ = some (.slice pb (ar b).length kb):=HBB4.out.cell 2
    have cl : w.heap.size < w4.heap.size:=HBA4.out.lt
    have cm : w.heap.size + 1 < w4.heap.size:=HBB4.out.lt
    go_wp2_with fail
    refine (unifiedG_any A fs f fe fa hA hfA N s _ a b _ _ w4 (HV.out.keep0 HF4.out) HZ.out hsum h0 hl (HA.out.keep0 HF4.out) (HB.out.keep0 HF4.out) hsa hsb r HU.out).mono ?_
    rintro e w6 ⟨hf6,he6⟩
    have HF46:=hid (HF34.out.trans hf6)
    have HF6:=hid (HF4.out.trans hf6)
    have HBP6:=hid (HBP4.out.keep hf6 (by simp))
    have HBQ6:=hid (HBQ4.out.keep hf6 (by simp))
    have hpl:=HBP4.out.lt
    have hql:=HBQ4.out.lt
    clear hf6 c0 c1 c2 c3 c4 c5 cl cm HBA4 HBB4 HBP4 HBQ4
    cases r with
    | error c =>
     simp only at he6
     subst he6
     unfold failE
     go_wp2_with fail
     exact door_panic _ _ _ _ c _ _ _ rfl rfl HBP6.out HBQ6.out (by omega) (HPAN.out c _ rfl HF46.out)
    | ok rs =>
     obtain ⟨v6,rfl,hv6⟩:=he6
     obtain ⟨p6,k6,rfl⟩:=hv6.shape
     have HV6:=hid hv6
     have x0 : w6.cell? ⟨w.heap.size + 1 + 1,0,none⟩ = some (.slice none 0 0):=HBP6.out.cell 0
     have x1 : w6.frozen? ⟨w.heap.size + 1 + 1,0,none⟩ = false:=HBP6.out.frozen 0
     have x2 : w6.cell? ⟨w.heap.size + 1 + 1 + 1,0,none⟩ = some (.int .i64 0):=HBQ6.out.cell 0
     have x3 : w6.frozen? ⟨w.heap.size + 1 + 1 + 1,0,none⟩ = false:=HBQ6.out.frozen 0
     have xl : w.heap.size + 1 + 1 < w6.heap.size:=HBP6.out.lt
     have xm : w.heap.size + 1 + 1 + 1 < w6.heap.size:=HBQ6.out.lt
     clear hv6
     go_wp2_with fail
     have hp1:=HBP6.out.set 0 (.slice p6 rs.length k6)
     have hp2:=(hp1.other (p:=⟨w.heap.size + 1 + 1 + 1,0,none⟩) (by simp) (.int .i64 0)).cell 0
     have hq1:=((HBQ6.out.other (p:=⟨w.heap.size + 1 + 1,0,none⟩) (by simp) (.slice p6 rs.length k6)).set 0 (.int .i64 0)).cell 0
     have hf7 : Fr [w.heap.size + 1 + 1,w.heap.size + 1 + 1 + 1] w6 ((w6.setCell ⟨w.heap.size + 1 + 1,0,none⟩ (.slice p6 rs.length k6)).setCell ⟨w.heap.size + 1 + 1 + 1,0,none⟩ (.int .i64 0)):=((Fr.refl _ w6).setCell (.inl (by simp)) _).setCell (.inl (by simp)) _
     exact door_ret _ _ _ _ _ _ _ rfl rfl hp2 hq1 ⟨((HF6.out.nil _).trans hf7).sub (fun k hk => .inr (by simp at hk;omega)),_,rfl,TysV.weak (HV6.out.keep hf7 (fun k hk h => by simp only [List.mem_cons,List.not_mem_nil,or_false] at hk;(have h3 : w4.heap.size ≤ k:=h);omega)) (fun k hk h => by (have h3 : w4.heap.size ≤ k:=h);(show w.heap.size ≤ k);omega)⟩
end Go.Proofs.Ytcdlnhfgehhkcaa
namespace Go.Proofs.Ytcdlnhfgehhkcaa
namespace Un
theorem add_all {P : Ty → Prop} (hsub : ∀ t,P t → kd t ≠ 9 → ∀ a ∈ ar t,P a) : ∀ (t : Ty) (ts : List Tm),P t → (∀ x ∈ ts,P x.t) → ∀ x ∈ (add ts t).1,P x.t:=by
 refine Ty.ind fun k i al ih => ?_
 intro ts ht hts
 rw [add]
 split
 ·exact hts
 ·rename_i h9
  have hal:=hsub _ ht h9
  have key : ∀ (l : List Ty),(∀ a ∈ l,a ∈ al) → ∀ ts,(∀ x ∈ ts,P x.t) → ∀ x ∈ (adds ts l).1,P x.t:=by
   intro l
   induction l with
   | nil => intro _ ts h;rw [adds];exact h
   | cons b r ihr =>
    intro hm ts h
    rw [adds]
    exact ihr (fun c hc => hm c (by simp [hc])) _ (ih b (hm b (by simp)) ts (hal b (hm b (by simp))) h)
  intro x hx
  rcases List.mem_append.1 hx with h | h
  ·exact key al (fun a h => h) ts hts x h
  ·rw [List.mem_singleton] at h;subst h;exact ht
theorem core_all {P : Ty → Prop} {ts ts' : List Tm} (h : core ts' = core ts) (hP : ∀ x ∈ ts,P x.t) : ∀ x ∈ ts',P x.t:=by
 intro a hm
 obtain ⟨i,hi⟩:=List.mem_iff_getElem?.1 hm
 obtain ⟨b,h1,h2,_⟩:=core_get h.symm hi
 rw [← h2]
 exact hP b (List.mem_of_getElem? h1)
theorem newS_all {P : Ty → Prop} (hsub : ∀ t,P t → kd t ≠ 9 → ∀ a ∈ ar t,P a) {fs f : Nat} {n : Int} : ∀ {l : List Ty} {i : Nat} {ts r : List Tm},newS fs f n i l ts = some (some r) → (∀ t ∈ l,unsolved t = true ∨ P t) → (∀ x ∈ ts,P x.t) → ∀ x ∈ r,P x.t
 | [],i,ts,r,h,_,hA => by
  rw [newS] at h
  simp only [Option.some.injEq] at h
  subst h
  exact hA
 | t :: l,i,ts,r,h,hs,hA => by
  rcases newS_none h with ⟨_,h1⟩ | ⟨hu,ts',hj,h1⟩
  ·exact newS_all hsub h1 (fun u hu => hs u (by simp [hu])) hA
  ·exact newS_all hsub h1 (fun u hu => hs u (by simp [hu])) (core_all (joinG_core hj) (add_all hsub t ts ((hs t (by simp)).resolve_left (by simp [hu])) hA))
def Small (n A : Nat) (t : Ty) : Prop:=over n t = true ∧ size t ≤ A
theorem Small.sub {n A : Nat} (t : Ty) (h : Small n A t) (h9 : kd t ≠ 9) : ∀ a ∈ ar t,Small n A a:=by
 intro a ha
 obtain ⟨h1,h2⟩:=h
 rw [over_eq,if_neg h9] at h1
 simp only [Bool.and_eq_true,List.all_eq_true] at h1
 refine ⟨h1.2 a ha,?_⟩
 cases t with
 | mk k i al => have:=@size_lt k i al a ha;omega
theorem fresh_small {n A : Nat} (hA : 1 ≤ A) : ∀ x ∈ fresh n,Small n A x.t:=by
 intro x hx
 obtain ⟨i,hi⟩:=List.mem_iff_getElem?.1 hx
 obtain ⟨h,rfl⟩:=fresh_next hi
 refine ⟨?_,by simpa [var,size,sizes] using hA⟩
 rw [over_eq]
 simp [var,kd,nm,ar]
 omega
theorem occ_vin {n : Int} {v : Int} : ∀ t,vin n t = true → occ v t = true → 0 ≤ v ∧ v < n:=by
 refine Un.Ty.ind fun k i al ih => ?_
 intro ht ho
 by_cases h9 : k = 9
 ·subst h9
  have h1:=vin_var ht rfl
  rw [occ_eq,if_pos (show kd (Ty.mk 9 i al) = 9 from rfl)] at ho
  have : i = v:=by simpa [nm] using ho
  simp only [nm] at h1
  omega
 ·rw [vin_mk h9,List.all_eq_true] at ht
  rw [occ_mk h9,List.any_eq_true] at ho
  obtain ⟨a,ha,hoa⟩:=ho
  exact ih a ha (ht a ha) hoa
theorem size_occ {θ : Int → Ty} {v : Int} : ∀ t,occ v t = true → size (θ v) ≤ size (ap θ t) ∧ (kd t ≠ 9 → size (θ v) < size (ap θ t)):=by
 refine Un.Ty.ind fun k i al ih => ?_
 intro ho
 by_cases h9 : k = 9
 ·subst h9
  rw [occ_eq,if_pos (show kd (Ty.mk 9 i al) = 9 from rfl)] at ho
  have : i = v:=by simpa [nm] using ho
  rw [ap_eq,if_pos (show kd (Ty.mk 9 i al) = 9 from rfl)]
  simp only [nm,this]
  exact ⟨Nat.le_refl _,fun h => absurd rfl h⟩
 ·rw [occ_mk h9,List.any_eq_true] at ho
  obtain ⟨a,ha,hoa⟩:=ho
  have h1:=(ih a ha hoa).1
  rw [ap_mk h9]
  have h2:=@size_lt k i (al.map (ap θ)) (ap θ a) (List.mem_map.2 ⟨a,ha,rfl⟩)
  exact ⟨by omega,fun _ => by omega⟩
theorem out_ranked {n : Nat} {ts : List Tm} {out : List Ty} {a : Ty} {θ : Int → Ty} (hlen : out.length = n) (hsh : ∀ (j : Nat) (x : Ty),out[j]? = some x → Elem n ts out j x) (hst : St n ts) (hv : ∀ x ∈ out,vin n x = true) (ha : vin n a = true) (hθ : Holds θ 0 out) : Ranked (out ++ [a]):=by
 obtain ⟨m,hm⟩:=rk_bound (E:=out) (fun v => 2 * size (θ v) + (match out[v]? with | some x => if kd x = 9 then 1 else 0 | none => 0))
 refine Rk.ranked (rk:=fun v => if v < n then 2 * size (θ v) + (match out[v]? with | some x => if kd x = 9 then 1 else 0 | none => 0) else m) ?_
 intro e v x hx hvl ho
 rw [List.length_append,List.length_singleton,hlen] at hvl
 by_cases he : e < n
 ·rw [List.getElem?_append_left (by omega)] at hx
  have hxm:=List.mem_of_getElem? hx
  obtain ⟨_,hvn⟩:=occ_vin x (hv x hxm) ho
  simp only
  rw [if_pos (show v < n by omega),if_pos he,hx]
  simp only
  have hxs : unsolved x = false:=by
   cases hu : unsolved x with
   | false => rfl
   | true =>
    unfold unsolved at hu
    simp only [Bool.and_eq_true,beq_iff_eq,List.isEmpty_iff] at hu
    rw [occ_eq,if_neg (by rw [hu.1.1];decide),hu.2] at ho
    simp at ho
  have hxe:=(hθ e x hx).resolve_left (by simp [hxs])
  rw [Nat.zero_add] at hxe
  rcases hsh e x hx with rfl | ⟨f,rfl,hf,y,hy,hyk⟩ | ⟨j,t,hj,ht,rfl⟩
  ·simp [unsolved,zero,kd,nm,ar] at hxs
  ·rw [occ_eq,if_pos (show kd (var f) = 9 from rfl)] at ho
   have hfv : f = v:=by
    have h1 : (f : Int) = v:=by simpa [var,nm] using ho
    omega
   subst hfv
   rw [hy]
   simp only
   rw [if_neg hyk,if_pos (show kd (var f) = 9 from rfl)]
   rw [ap_var] at hxe
   rw [hxe]
   omega
  ·have hk:=(hst.nv j t hj ht).1
   have:=(size_occ (θ:=θ) t.t ho).2 hk
   rw [if_neg hk]
   rw [← hxe]
   split
   ·split <;> omega
   ·omega
 ·have hel:=(List.getElem?_eq_some_iff.1 hx).1
  rw [List.length_append,List.length_singleton,hlen] at hel
  rw [List.getElem?_append_right (by omega),hlen,show e - n = 0 by omega] at hx
  simp only [List.getElem?_cons_zero,Option.some.injEq] at hx
  subst hx
  obtain ⟨_,hvn⟩:=occ_vin _ ha ho
  simp only
  rw [if_pos (show v < n by omega),if_neg he]
  exact hm v (by omega)
theorem appsG_total {E : List Ty} (hv : Vin E) (hr : Ranked E) : ∀ (l : List Ty),(∀ x ∈ l,vin E.length x = true) → ∃ fe fa rs,appsG E fe fa l = some rs ∧ rs.length = l.length ∧ ∀ (i : Nat) (x r : Ty),l[i]? = some x → rs[i]? = some r → Res E x r
 | [],_ => ⟨0,0,[],rfl,rfl,fun i x r hx => by simp at hx⟩
 | x :: l,hl => by
  obtain ⟨r,hres⟩:=Res.ex hv hr (hl x (by simp))
  obtain ⟨fe1,f1,h1⟩:=appG_res hres (hl x (by simp)) hv
  obtain ⟨fe2,f2,rs,h2,h3,h4⟩:=appsG_total hv hr l (fun y hy => hl y (by simp [hy]))
  have hmono : ∀ (l rs : List Ty),appsG E fe2 f2 l = some rs → appsG E (max fe1 fe2) (max (f1 + 1) f2) l = some rs:=by
   intro l
   induction l with
   | nil => intro rs h;rw [appsG] at h ⊢;exact h
   | cons y l ih =>
    intro rs h
    rw [appsG] at h ⊢
    cases h5 : appG E fe2 f2 y with
    | none => rw [h5] at h;cases h
    | some z =>
     rw [h5] at h
     rw [appG_mono (Nat.le_max_right fe1 fe2) h5 (Nat.le_max_right (f1 + 1) f2)]
     simp only at h ⊢
     obtain ⟨r2,h6,rfl⟩:=Option.map_eq_some_iff.1 h
     rw [ih r2 h6];rfl
  refine ⟨max fe1 fe2,max (f1 + 1) f2,r :: rs,?_,by simp [h3],fun i y z hy hz => ?_⟩
  ·rw [appsG,appG_mono (Nat.le_max_left fe1 fe2) h1 (Nat.le_max_left (f1 + 1) f2)]
   simp only
   rw [hmono l rs h2];rfl
  ·cases i with
   | zero =>
    simp only [List.getElem?_cons_zero,Option.some.injEq] at hy hz
    subst hy;subst hz
    exact hres
   | succ i =>
    simp only [List.getElem?_cons_succ] at hy hz
    exact h4 i y z hy hz
theorem ranked_left {l m : List Ty} (h : Ranked (l ++ m)) : Ranked l:=by
 obtain ⟨rk,hr⟩:=h.rk
 exact Rk.ranked (rk:=rk) (fun e v x hx hv ho => hr e v x (by rw [List.getElem?_append_left (List.getElem?_eq_some_iff.1 hx).1];exact hx) (by rw [List.length_append];omega) ho)
structure UniR (n : Nat) (s : List Ty) (a b : Ty) (r : Except Int (List Ty)) : Prop where
 err : ∀ c,r = .error c → c = 1 ∨ c = 2 ∨ c = 8
 len : ∀ rs,r = .ok rs → rs.length = n
 sol : ∀ θ,Holds θ 0 s → ap θ a = ap θ b → r ≠ .error 8 ∧ ∀ rs,r = .ok rs → ∀ (i : Nat) (x : Ty),rs[i]? = some x → x = zero ∨ (over n x = true ∧ ap θ x = θ i)
def fuel (s : List Ty) (a b : Ty) (A : Nat) : Nat:=(s.length + sizes s + size a + size b) * (A + 1) + 3
theorem wf_total {s : List Ty} (hn : s.length ≤ 1000) (hs : ∀ t ∈ s,size t ≤ 90000) : ∃ wb,wf s = some wb ∧ (wb = true → (∀ t ∈ s,unsolved t = true ∨ element s.length t = true) ∧ Ranked s):=by
 unfold wf
 by_cases h : (s.all fun t => unsolved t || element s.length t) = true
 ·rw [if_pos h]
  obtain ⟨d,hd,hr⟩:=depthsOf_total s hn hs
  rw [hd]
  refine ⟨_,rfl,fun hb => ⟨fun t ht => ?_,hr.1 ?_⟩⟩
  ·have:=(List.all_eq_true.1 h) t ht
   simpa using this
  ·simp only [Bool.and_eq_true] at hb;exact hb.1
 ·rw [if_neg h]
  exact ⟨false,rfl,fun h => by cases h⟩
end Un
end Go.Proofs.Ytcdlnhfgehhkcaa
namespace Go.Proofs.Ytcdlnhfgehhkcaa
namespace Un
def zeros (n : Nat) : List Ty:=List.replicate n zero
theorem within_depth : ∀ (t : Ty) (n : Nat),depth t ≤ n → within n t = true:=by
 refine Un.Ty.ind fun k i al ih => ?_
 intro n h
 rw [depth] at h
 rw [within_eq]
 simp only [Bool.and_eq_true,decide_eq_true_eq,List.all_eq_true]
 refine ⟨by omega,fun a ha => ?_⟩
 have h1 : depth a ≤ depths al:=depth_mem ha
 have h2:=ih a ha (n - 1) (by omega)
 rwa [show (n : Int) - 1 = ((n - 1 : Nat) : Int) by omega]
theorem element_of {n : Nat} {t : Ty} (h : over n t = true) (hd : depth t ≤ 8) : element n t = true:=by
 unfold element
 have h1 : within 8 t = true:=within_depth t 8 hd
 rw [h,h1];rfl
end Un
end Go.Proofs.Ytcdlnhfgehhkcaa
