/- part of the proof -/
import Derived.Test.YtcdlnhfgehhkcaaQ30
set_option linter.unusedVariables false
set_option linter.unusedSimpArgs false
set_option linter.unusedSectionVars false
namespace Go.Proofs.Ytcdlnhfgehhkcaa
open Go.RowKit Go.Lib
open Un (kd nm ar)
namespace Un
inductive At : Ty → Int → Nat → Prop
 | var (t : Ty) (h : kd t = 9) : At t (nm t) 0
 | arg (t a : Ty) (v : Int) (k : Nat) (h9 : kd t ≠ 9) (ha : a ∈ ar t) (h : At a v k) : At t v (k + 1)
theorem above_at : ∀ (t : Ty) (f : Int → Option Int) (lv v l : Int),0 ≤ lv → above t f lv v = some l → f v = some l ∨ ∃ k : Nat,At t v k ∧ l = lv + k:=by
 refine Un.Ty.ind fun k i al ih => ?_
 intro f lv v l h0 h
 rw [above_eq] at h
 by_cases h9 : kd (Ty.mk k i al) = 9
 ·rw [if_pos h9] at h
  unfold upd at h
  obtain ⟨z,hz⟩ : ∃ z,z = nm (Ty.mk k i al):=⟨_,rfl⟩
  have hat : At (Ty.mk k i al) z 0:=by rw [hz];exact .var _ h9
  rw [← hz] at h
  by_cases e : v = z
  ·rw [if_pos e] at h
   subst e
   cases hf : f v with
   | none =>
    rw [hf] at h
    simp only [Option.getD_none,Option.some.injEq] at h
    exact .inr ⟨0,hat,by omega⟩
   | some x =>
    rw [hf] at h
    simp only [Option.getD_some,Option.some.injEq] at h
    by_cases hx : l = x
    ·exact .inl (by rw [hx])
    ·exact .inr ⟨0,hat,by omega⟩
  ·rw [if_neg e] at h
   exact .inl h
 ·rw [if_neg h9] at h
  have key : ∀ (m : List Ty),(∀ a ∈ m,a ∈ al) → ∀ (f : Int → Option Int),aboves m f (lv + 1) v = some l → f v = some l ∨ ∃ k' : Nat,At (Ty.mk k i al) v k' ∧ l = lv + k':=by
   intro m
   induction m with
   | nil => intro _ f h;rw [aboves] at h;exact .inl h
   | cons a r ihr =>
    intro hm f h
    rw [aboves] at h
    rcases ihr (fun b hb => hm b (by simp [hb])) _ h with h1 | h1
    ·rcases ih a (hm a (by simp)) f (lv + 1) v l (by omega) h1 with h2 | ⟨k',h2,h3⟩
     ·exact .inl h2
     ·exact .inr ⟨k' + 1,.arg _ a v k' h9 (hm a (by simp)) h2,by omega⟩
    ·exact .inr h1
  exact key al (fun a h => h) f h
theorem above_ge : ∀ (t : Ty) (f : Int → Option Int) (lv : Int),0 ≤ lv → (∀ v x,f v = some x → ∃ l,above t f lv v = some l ∧ x ≤ l) ∧ (∀ (v : Int) (k : Nat),At t v k → ∃ l,above t f lv v = some l ∧ lv + k ≤ l):=by
 refine Un.Ty.ind fun k i al ih => ?_
 intro f lv h0
 rw [above_eq]
 by_cases h9 : kd (Ty.mk k i al) = 9
 ·rw [if_pos h9]
  refine ⟨fun v x hx => ?_,fun v k' h => ?_⟩
  ·unfold upd
   by_cases e : v = nm (Ty.mk k i al)
   ·rw [if_pos e]
    refine ⟨_,rfl,?_⟩
    rw [← e,hx]
    simp only [Option.getD_some]
    omega
   ·rw [if_neg e]
    exact ⟨x,hx,Int.le_refl _⟩
  ·cases h with
   | var _ => exact ⟨_,by unfold upd;rw [if_pos rfl],by omega⟩
   | arg _ a _ k'' h9' ha hat => exact absurd h9 h9'
 ·rw [if_neg h9]
  have key : ∀ (m : List Ty),(∀ a ∈ m,a ∈ al) → ∀ (f : Int → Option Int),(∀ v x,f v = some x → ∃ l,aboves m f (lv + 1) v = some l ∧ x ≤ l) ∧ (∀ (v : Int) (k : Nat) (a : Ty),a ∈ m → At a v k → ∃ l,aboves m f (lv + 1) v = some l ∧ lv + 1 + k ≤ l):=by
   intro m
   induction m with
   | nil => intro _ f;rw [aboves];exact ⟨fun v x h => ⟨x,h,Int.le_refl _⟩,fun v k a h => by cases h⟩
   | cons b r ihr =>
    intro hm f
    rw [aboves]
    obtain ⟨a1,a2⟩:=ih b (hm b (by simp)) f (lv + 1) (by omega)
    obtain ⟨b1,b2⟩:=ihr (fun c hc => hm c (by simp [hc])) (above b f (lv + 1))
    refine ⟨fun v x hx => ?_,fun v k a ha h => ?_⟩
    ·obtain ⟨l,h1,h2⟩:=a1 v x hx
     obtain ⟨l',h3,h4⟩:=b1 v l h1
     exact ⟨l',h3,by omega⟩
    ·rcases List.mem_cons.1 ha with rfl | ha
     ·obtain ⟨l,h1,h2⟩:=a2 v k h
      obtain ⟨l',h3,h4⟩:=b1 v l h1
      exact ⟨l',h3,by omega⟩
     ·exact b2 v k a ha h
  obtain ⟨k1,k2⟩:=key al (fun a h => h) f
  refine ⟨k1,fun v k' h => ?_⟩
  cases h with
  | var _ h => exact absurd h h9
  | arg _ a _ k'' h9' ha hat =>
   obtain ⟨l,h1,h2⟩:=k2 v k'' a ha hat
   exact ⟨l,h1,by omega⟩
theorem depth_pos (t : Ty) : 1 ≤ depth t:=by rw [depth_eq];omega
theorem depth_mk (k i : Int) (al : List Ty) : depth (.mk k i al) = depths al + 1:=by rw [depth_eq];rfl
theorem at_depth {θ : Int → Ty} {t : Ty} {v : Int} {k : Nat} (h : At t v k) : k + depth (θ v) ≤ depth (ap θ t):=by
 induction h with
 | var t h => rw [ap_eq,if_pos h];omega
 | arg t a v k h9 ha h ih =>
  rw [ap_eq,if_neg h9,depth_mk]
  have:=depth_mem (List.mem_map.2 ⟨a,ha,rfl⟩ : ap θ a ∈ (ar t).map (ap θ))
  omega
theorem depth_ap {θ : Int → Ty} {n : Int} : ∀ t,vin n t = true → depth t ≤ depth (ap θ t):=by
 refine Un.Ty.ind fun k i al ih => ?_
 intro hv
 by_cases h9 : k = 9
 ·have h:=(vin_var hv (show kd (Ty.mk k i al) = 9 from h9)).2.2
  have h' : al = []:=h
  rw [depth_mk,h',depths]
  have:=depth_pos (ap θ (Ty.mk k i []))
  omega
 ·rw [vin_mk h9,List.all_eq_true] at hv
  rw [ap_mk h9,depth_mk,depth_mk]
  have : depths al ≤ depths (al.map (ap θ)):=depths_le.2 fun a ha => Nat.le_trans (ih a ha (hv a ha)) (depth_mem (List.mem_map.2 ⟨a,ha,rfl⟩))
  omega
theorem depths_at : ∀ {l : List Ty},l ≠ [] → ∃ a ∈ l,depth a = depths l
 | [],h => absurd rfl h
 | [a],_ => ⟨a,by simp,by rw [depths,depths];omega⟩
 | a :: b :: r,_ => by
  obtain ⟨c,h1,h2⟩:=depths_at (l:=b :: r) (by simp)
  rw [depths]
  by_cases h : depth a ≤ depths (b :: r)
  ·exact ⟨c,by simp at h1 ⊢;exact .inr h1,by omega⟩
  ·exact ⟨a,by simp,by omega⟩
theorem depth_cases {θ : Int → Ty} {n : Int} : ∀ t,vin n t = true → depth (ap θ t) = depth t ∨ ∃ (v : Int) (k : Nat),At t v k ∧ depth (ap θ t) = k + depth (θ v):=by
 refine Un.Ty.ind fun k i al ih => ?_
 intro hv
 by_cases h9 : k = 9
 ·right
  exact ⟨_,0,.var _ (show kd (Ty.mk k i al) = 9 from h9),by rw [ap_eq,if_pos (show kd (Ty.mk k i al) = 9 from h9)];omega⟩
 ·have hv':=hv
  rw [vin_mk h9,List.all_eq_true] at hv
  by_cases hn : al = []
  ·subst hn;left;rw [ap_mk h9];rfl
  ·obtain ⟨b,hb,hd⟩:=depths_at (l:=al.map (ap θ)) (by simpa using hn)
   obtain ⟨a,ha,rfl⟩:=List.mem_map.1 hb
   have h3:=depth_ap (θ:=θ) _ hv'
   rw [ap_mk h9,depth_mk] at h3 ⊢
   rcases ih a ha (hv a ha) with h1 | ⟨v,k',h1,h2⟩
   ·left
    have:=depth_mem ha
    rw [depth_mk] at h3 ⊢
    omega
   ·right
    exact ⟨v,k' + 1,.arg _ a v k' h9 ha h1,by omega⟩
structure Dp (s : List Ty) (θ : Int → Ty) : Prop where
 vin : ∀ t ∈ s,vin s.length t = true
 hol : Holds θ 0 s
 uns : ∀ (e : Nat) (x : Ty),s[e]? = some x → unsolved x = true → depth (θ e) = 1
theorem depth_unsolved {x : Ty} (h : unsolved x = true) : depth x = 1:=by
 unfold unsolved at h
 simp only [Bool.and_eq_true,beq_iff_eq,List.isEmpty_iff] at h
 rw [depth_eq,h.2,depths]
theorem occ_unsolved {x : Ty} (h : unsolved x = true) (v : Int) : occ v x = false:=by
 unfold unsolved at h
 simp only [Bool.and_eq_true,beq_iff_eq,List.isEmpty_iff] at h
 rw [occ_eq,if_neg (by rw [h.1.1];decide),h.2];rfl
theorem Dp.self {s : List Ty} {θ : Int → Ty} (h : Dp s θ) {e : Nat} {x : Ty} (hx : s[e]? = some x) : depth x ≤ depth (θ e):=by
 by_cases hu : unsolved x = true
 ·rw [depth_unsolved hu];exact depth_pos _
 ·have h1:=(h.hol e x hx).resolve_left hu
  rw [Nat.zero_add] at h1
  rw [← h1]
  exact depth_ap x (h.vin x (List.mem_of_getElem? hx))
theorem Dp.edge {s : List Ty} {θ : Int → Ty} (h : Dp s θ) {e : Nat} {v l : Int} (hv : vars s e v = some l) : l + depth (θ v) ≤ depth (θ e):=by
 unfold vars at hv
 cases hx : s[e]? with
 | none => rw [hx] at hv;cases hv
 | some x =>
  rw [hx] at hv
  simp only at hv
  rcases above_at x _ 0 v l (Int.le_refl _) hv with h1 | ⟨k,h1,h2⟩
  ·cases h1
  ·have hu : unsolved x ≠ true:=fun hu => by
    have:=above_occ v x (fun _ => none) 0
    rw [hv,occ_unsolved hu] at this
    simp at this
   have h3:=(h.hol e x hx).resolve_left hu
   rw [Nat.zero_add] at h3
   rw [← h3]
   have:=at_depth (θ:=θ) h1
   omega
theorem Dp.top {s : List Ty} {θ : Int → Ty} (h : Dp s θ) {e : Nat} {x : Ty} (hx : s[e]? = some x) : depth (θ e) = depth x ∨ ∃ (v : Nat) (l : Int),v < s.length ∧ vars s e v = some l ∧ (depth (θ e) : Int) = l + depth (θ v):=by
 by_cases hu : unsolved x = true
 ·left;rw [depth_unsolved hu,h.uns e x hx hu]
 ·have h1:=(h.hol e x hx).resolve_left hu
  rw [Nat.zero_add] at h1
  have hvn:=h.vin x (List.mem_of_getElem? hx)
  rcases depth_cases (θ:=θ) x hvn with h2 | ⟨v,k,h2,h3⟩
  ·left;rw [← h1,h2]
  ·right
   obtain ⟨l,h4,h5⟩:=(above_ge x (fun _ => none) 0 (Int.le_refl _)).2 v k h2
   have hvs : vars s e v = some l:=by unfold vars;rw [hx];exact h4
   have hr:=above_range s.length x (fun _ => none) 0 hvn (fun i hi => by cases hi) v (by rw [h4];rfl)
   have h6:=h.edge hvs
   refine ⟨v.toNat,l,by omega,by rw [Int.toNat_of_nonneg hr.1];exact hvs,?_⟩
   rw [Int.toNat_of_nonneg hr.1]
   rw [← h1] at h6 ⊢
   omega
theorem relax_dn {n : Nat} {v : Int} : ∀ {L : List (Int × Int)} {d d' : Dst},relax n v L d = some d' → ∃ m,d'.dn = d.dn ++ m
 | [],d,d',h => by rw [relax] at h;cases h;exact ⟨[],by simp⟩
 | x :: L,d,d',h => by
  rw [relax] at h
  split at h
  ·obtain ⟨m,hm⟩:=relax_dn h
   unfold relax1 at hm
   simp only at hm
   split at hm
   ·exact ⟨[x.1] ++ m,by rw [hm,List.append_assoc]⟩
   ·exact ⟨m,hm⟩
  ·cases h
theorem relax_de {n v : Nat} : ∀ {L : List (Int × Int)} {d d' : Dst},relax n v L d = some d' → (∀ x ∈ L,∃ e : Nat,x.1 = e ∧ e < n) → (L.map Prod.fst).Nodup → (v : Int) ∉ L.map Prod.fst → d.de.length = n →
  ∀ e : Nat,e < n → (∀ l : Int,((e : Int),l) ∈ L → nth d'.de e = max (nth d.de e) (l + nth d.de v)) ∧ ((e : Int) ∉ L.map Prod.fst → nth d'.de e = nth d.de e)
 | [],d,d',h,_,_,_,_ => fun e he => by rw [relax] at h;cases h;exact ⟨fun l hl => (by cases hl),fun _ => rfl⟩
 | x :: L,d,d',h,hx,hnd,hvn,hl => fun e he => by
  rw [relax] at h
  split at h
  ·rw [List.map_cons,List.nodup_cons] at hnd
   rw [List.map_cons,List.mem_cons,not_or] at hvn
   obtain ⟨e',h1,h2⟩:=hx x (by simp)
   have hset : ∀ j : Nat,nth (relax1 v x d).de (j : Int) = if j = e' then max (nth d.de e') (x.2 + nth d.de v) else nth d.de j:=fun j => by
    unfold relax1
    simp only
    rw [h1,Int.toNat_natCast]
    exact nth_set (by omega) j
   have ih:=relax_de h (fun y hy => hx y (by simp [hy])) hnd.2 hvn.2 (by unfold relax1;simp [hl]) e he
   have hve : v ≠ e':=fun h => hvn.1 (by rw [h1,h])
   have hv' : nth (relax1 v x d).de (v : Int) = nth d.de v:=by rw [hset,if_neg hve]
   refine ⟨fun l hm => ?_,fun hm => ?_⟩
   ·rcases List.mem_cons.1 hm with hm | hm
    ·have e1 : e = e':=by rw [← hm] at h1;simp only at h1;omega
     subst e1
     rw [ih.2 (by rw [← h1];exact hnd.1),hset,if_pos rfl,← hm]
    ·have hne : e ≠ e':=fun h => hnd.1 (by rw [h1,← h];exact List.mem_map.2 ⟨_,hm,rfl⟩)
     rw [ih.1 l hm,hv',hset,if_neg hne]
   ·rw [List.map_cons,List.mem_cons,not_or] at hm
    have hne : e ≠ e':=fun h => hm.1 (by rw [h1,h])
    rw [ih.2 hm.2,hset,if_neg hne]
  ·cases h
structure KD (s : List Ty) (θ : Int → Ty) (next : Nat) (d : Dst) : Prop where
 low0 : ∀ e : Nat,e < s.length → (depE s e : Int) ≤ nth d.de e
 low : ∀ e v : Nat,e < s.length → v < s.length → (v : Int) ∈ d.dn.take next → ∀ l,vars s e v = some l → l + depth (θ v) ≤ nth d.de e
 up : ∀ e : Nat,e < s.length → nth d.de e ≤ depth (θ e)
theorem KD.eq {s : List Ty} {θ : Int → Ty} (hD : Dp s θ) {next : Nat} {d : Dst} (h : KD s θ next d) {e : Nat} (he : e < s.length) (hall : ∀ v : Nat,v < s.length → (vars s e v).isSome = true → (v : Int) ∈ d.dn.take next) : nth d.de e = depth (θ e):=by
 have h1:=h.up e he
 have hx:=List.getElem?_eq_getElem he
 rcases hD.top hx with h2 | ⟨v,l,hv,h2,h3⟩
 ·have h4:=h.low0 e he
  unfold depE at h4
  rw [hx] at h4
  simp only at h4
  omega
 ·have:=h.low e v he hv (hall v hv (by rw [h2];rfl)) l h2
  omega
theorem KD.step {s : List Ty} {θ : Int → Ty} (hD : Dp s θ) {next : Nat} {d d' : Dst} (hK : Kahn s next d) (h : KD s θ next d) {u : Nat} (hu : d.dn[next]? = some (u : Int)) (hr : relax s.length u (plAt s s.length u) d = some d') : KD s θ (next + 1) d':=by
 have hul : u < s.length:=by have:=hK.rg u (List.mem_of_getElem? hu);omega
 have hlt : next < d.dn.length:=(List.getElem?_eq_some_iff.1 hu).1
 have hde:=h.eq hD hul (hK.or next u hu)
 have hun : (u : Int) ∉ d.dn.take next:=fun hm => by
  obtain ⟨i,hi⟩:=List.mem_iff_getElem?.1 hm
  rw [List.getElem?_take] at hi
  split at hi
  ·have:=(List.getElem?_inj (i:=i) (j:=next) (by omega) hK.nd).1 (by rw [hi,hu])
   omega
  ·cases hi
 have hself : (u : Int) ∉ (plAt s s.length u).map Prod.fst:=fun hm => by
  rw [plAt_fst hul] at hm
  exact hun (hK.or next u hu u hul hm)
 have hrd:=relax_de hr (fun x hx => by
  obtain ⟨e,h1,h2,_⟩:=plAt_mem.1 hx
  exact ⟨e,h2,h1⟩) (plAt_nodup s u s.length) hself hK.de
 obtain ⟨m,hm⟩:=relax_dn hr
 have htk : d'.dn.take (next + 1) = d.dn.take next ++ [(u : Int)]:=by
  rw [hm,List.take_append_of_le_length (by omega),List.take_add_one,hu];rfl
 have hge : ∀ e : Nat,e < s.length → nth d.de e ≤ nth d'.de e:=fun e he => by
  cases hv : vars s e u with
  | none => rw [(hrd e he).2 (by rw [plAt_fst he,hv];simp)];omega
  | some l => rw [(hrd e he).1 l (plAt_mem.2 ⟨e,he,rfl,hv⟩)];omega
 refine ⟨fun e he => Int.le_trans (h.low0 e he) (hge e he),fun e v he hv hvm l hl => ?_,fun e he => ?_⟩
 ·rw [htk,List.mem_append,List.mem_singleton] at hvm
  rcases hvm with hvm | hvm
  ·exact Int.le_trans (h.low e v he hv hvm l hl) (hge e he)
  ·obtain rfl : v = u:=by omega
   rw [(hrd e he).1 l (plAt_mem.2 ⟨e,he,rfl,hl⟩)]
   omega
 ·cases hv : vars s e u with
  | none => rw [(hrd e he).2 (by rw [plAt_fst he,hv];simp)];exact h.up e he
  | some l =>
   rw [(hrd e he).1 l (plAt_mem.2 ⟨e,he,rfl,hv⟩)]
   have h1:=hD.edge hv
   have h2:=h.up e he
   omega
theorem KD.spread {s : List Ty} {θ : Int → Ty} (hD : Dp s θ) (hl : s.length ≤ 1000) (hs : ∀ t ∈ s,size t ≤ 90000) : ∀ (f next : Nat) (d d' : Dst),Kahn s next d → KD s θ next d → Un.spread s.length (plAt s s.length) f next d = some d' → Kahn s d'.dn.length d' ∧ KD s θ d'.dn.length d'
 | 0,next,d,d',hK,h,hr => by cases hr
 | f + 1,next,d,d',hK,h,hr => by
  rw [Un.spread] at hr
  cases hv : d.dn[next]? with
  | none =>
   rw [hv] at hr
   simp only at hr
   split at hr
   ·cases hr
    have h2 : next = d.dn.length:=by
     have:=hK.le
     rw [List.getElem?_eq_none_iff] at hv
     omega
    subst h2
    exact ⟨hK,h⟩
   ·cases hr
  | some v =>
   rw [hv] at hr
   simp only at hr
   have h3:=hK.rg v (List.mem_of_getElem? hv)
   obtain ⟨u,rfl⟩ : ∃ u : Nat,v = u:=⟨v.toNat,by omega⟩
   split at hr
   ·obtain ⟨d1,r1,r2⟩:=Option.bind_eq_some_iff.1 hr
    obtain ⟨d2,r3,r4⟩:=hK.step hl hs hv
    rw [r1] at r3
    cases r3
    rw [Int.toNat_natCast] at r1
    exact KD.spread hD hl hs f (next + 1) d1 d' r4 (KD.step hD hK h hv r1) r2
   ·cases hr
theorem depthsOf_depth {s : List Ty} {θ : Int → Ty} (hD : Dp s θ) (hl : s.length ≤ 1000) (hs : ∀ t ∈ s,size t ≤ 90000) {r : List Int × Bool} (hr : depthsOf s = some r) (hf : r.2 = true) : r.1 = (List.range s.length).map fun (e : Nat) => (depth (θ (e : Int)) : Int):=by
 unfold depthsOf at hr
 obtain ⟨d,h1,h2⟩:=Option.map_eq_some_iff.1 hr
 subst h2
 simp only [beq_iff_eq] at hf ⊢
 obtain ⟨hK,h⟩:=KD.spread hD hl hs _ _ _ _ (Kahn.start s hs) ⟨fun e he => by
  unfold nth depAt
  simp only [Int.toNat_natCast,List.getElem?_map,List.getElem?_range he,Option.map_some,Option.getD_some,if_pos he]
  exact Int.le_refl _,fun e v _ _ hm => by simp at hm,fun e he => by
  unfold nth depAt
  simp only [Int.toNat_natCast,List.getElem?_map,List.getElem?_range he,Option.map_some,Option.getD_some,if_pos he]
  have hx:=List.getElem?_eq_getElem he
  have:=hD.self hx
  unfold depE
  rw [hx]
  simp only
  omega⟩ h1
 have hall:=(nodup_full hK.nd hK.rg).1 hf
 refine List.ext_getElem? fun e => ?_
 by_cases he : e < s.length
 ·have h3:=h.eq hD he (fun v hv _ => by rw [List.take_length];exact hall v hv)
  rw [List.getElem?_map,List.getElem?_range he,Option.map_some,← h3]
  unfold nth
  rw [Int.toNat_natCast,List.getElem?_eq_getElem (by rw [hK.de];exact he)]
  rfl
 ·rw [List.getElem?_eq_none (by rw [hK.de];omega),List.getElem?_eq_none (by simp;omega)]
theorem depthsOf_any {s : List Ty} {θ : Int → Ty} (hD : Dp s θ) (hl : s.length ≤ 1000) (hs : ∀ t ∈ s,size t ≤ 90000) {r : List Int × Bool} (hr : depthsOf s = some r) (hf : r.2 = true) : (r.1.any fun n => decide (8 < n)) = true ↔ ∃ e : Nat,e < s.length ∧ 8 < depth (θ e):=by
 rw [depthsOf_depth hD hl hs hr hf,List.any_eq_true]
 constructor
 ·rintro ⟨x,hx,h⟩
  obtain ⟨e,he,rfl⟩:=List.mem_map.1 hx
  exact ⟨e,List.mem_range.1 he,by have:=of_decide_eq_true h;omega⟩
 ·rintro ⟨e,he,h⟩
  exact ⟨_,List.mem_map.2 ⟨e,List.mem_range.2 he,rfl⟩,by rw [decide_eq_true_eq];omega⟩
end Un
end Go.Proofs.Ytcdlnhfgehhkcaa
