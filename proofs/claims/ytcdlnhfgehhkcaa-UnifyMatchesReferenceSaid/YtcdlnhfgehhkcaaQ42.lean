/- part of the proof -/
import Derived.Test.YtcdlnhfgehhkcaaQ41
set_option linter.unusedVariables false
set_option linter.unusedSimpArgs false
set_option linter.unusedSectionVars false
namespace Go.Proofs.Ytcdlnhfgehhkcaa
open Go.RowKit Go.Lib
open Un (kd nm ar)
namespace Un
theorem depth_same {θ : Int → Ty} {n : Int} : ∀ t,vin n t = true → (∀ v : Int,occ v t = true → depth (θ v) = 1) → depth (ap θ t) = depth t:=by
 refine Un.Ty.ind fun k i al ih => ?_
 intro hv ho
 by_cases h9 : k = 9
 ·have h:=(vin_var hv (show kd (Ty.mk k i al) = 9 from h9)).2.2
  have h' : al = []:=h
  subst h'
  rw [ap_eq,if_pos (show kd (Ty.mk k i []) = 9 from h9),ho _ (occ_self (t:=Ty.mk k i []) h9),depth_mk,depths]
 ·rw [vin_mk h9,List.all_eq_true] at hv
  rw [ap_mk h9,depth_mk,depth_mk]
  have : depths (al.map (ap θ)) = depths al:=by
   have h1 : depths (al.map (ap θ)) ≤ depths al:=depths_le.2 fun b hb => by
    obtain ⟨a,ha,rfl⟩:=List.mem_map.1 hb
    rw [ih a ha (hv a ha) (fun v hv => ho v (by rw [occ_mk h9,List.any_eq_true];exact ⟨a,ha,hv⟩))]
    exact depth_mem ha
   have h2 : depths al ≤ depths (al.map (ap θ)):=depths_le.2 fun a ha => by
    rw [← ih a ha (hv a ha) (fun v hv => ho v (by rw [occ_mk h9,List.any_eq_true];exact ⟨a,ha,hv⟩))]
    exact depth_mem (List.mem_map.2 ⟨a,ha,rfl⟩)
   omega
  rw [this]
theorem least_unit {s t : List Ty} {a b : Ty} {fr : Nat → Nat} {L : List Ty} (hto : Okl t) (htr : Ranked t) (hlen : t.length = s.length) (hh : ∀ θ,Holds θ 0 t ↔ (Holds θ 0 s ∧ ap θ a = ap θ b)) (h : Least t fr L) : UniT s a b L:=by
 have hc:=h.canon hto
 rw [hlen] at hc
 have h1:=(h.holds hto htr (asn L)).1 hc.holds
 obtain ⟨h2,h3⟩:=(hh _).1 h1
 exact ⟨hc,h2,h3,fun θ hθ hab => (h.holds hto htr θ).2 ((hh θ).2 ⟨hθ,hab⟩)⟩
theorem least_shallow {t : List Ty} {a za : Ty} {fr : Nat → Nat} {L : List Ty} (hto : Okl t) (htr : Ranked t) (h : Least t fr L) (ha : over t.length a = true) (hza : Res t a za) : shallow L a = true ↔ FormedP t ∧ depth za ≤ 8:=by
 have hc:=h.canon hto
 have hHt:=(h.holds hto htr (asn L)).1 hc.holds
 have hel : ∀ (i : Nat) (z : Ty),i < t.length → Res t (var i) z → ∀ x,L[i]? = some x → depth x = depth z:=fun i z hi hz x hx => by
  obtain ⟨z',hz',h1⟩:=h.el i hi
  have:=Res.det hz hz'
  subst this
  have hzo:=Res.over hz hto.hel (over_nat hi)
  have hd : depth (ap (ren fr) z) = depth z:=depth_same z (vin_of_over _ _ hzo) (fun v _ => rfl)
  rcases h1 with ⟨h2,h3⟩ | ⟨_,h3⟩
  ·rw [h3] at hx
   cases hx
   rw [← hd,h2]
   rfl
  ·rw [h3] at hx
   cases hx
   exact hd
 have hzao:=Res.over hza hto.hel ha
 have hdz : depth (ap (asn L) a) = depth za:=by
  rw [← hza.ap hHt]
  refine depth_same za (vin_of_over _ _ hzao) (fun v hv => ?_)
  obtain ⟨m,rfl,hm⟩:=hza.left0 hto hv
  have hml:=(List.getElem?_eq_some_iff.1 hm).1
  obtain ⟨x,hx⟩ : ∃ x,L[m]? = some x:=⟨_,List.getElem?_eq_getElem (by rw [h.len];exact hml)⟩
  rw [asn_some hx]
  by_cases hu : unsolved x = true
  ·rw [if_pos hu];rfl
  ·rw [if_neg hu,hel m (var m) hml (res_var hm) x hx];rfl
 unfold shallow
 rw [hdz]
 simp only [Bool.and_eq_true,List.all_eq_true,decide_eq_true_eq]
 constructor
 ·rintro ⟨h1,h2⟩
  refine ⟨⟨hto,htr,fun i z hi hz => ?_⟩,h2⟩
  obtain ⟨x,hx⟩ : ∃ x,L[i]? = some x:=⟨_,List.getElem?_eq_getElem (by rw [h.len];exact hi)⟩
  rw [← hel i z hi hz x hx]
  exact h1 x (List.mem_of_getElem? hx)
 ·rintro ⟨h1,h2⟩
  refine ⟨fun x hx => ?_,h2⟩
  obtain ⟨i,hi⟩:=List.mem_iff_getElem?.1 hx
  have hil:=(List.getElem?_eq_some_iff.1 hi).1
  rw [h.len] at hil
  obtain ⟨z,hz,_⟩:=h.el i hil
  rw [hel i z hil hz x hi]
  exact h1.deep i z hil hz
theorem unify_agree {s : List Ty} {a b : Ty} {r r' : Except Int (List Ty)} {wb : Bool} (hn : s.length ≤ 1000) (hs : ∀ t ∈ s,size t ≤ 90000) (hw : wf s = some wb)
  (hc : ((wb && (element s.length a && element s.length b)) = false ∧ r = .error 1) ∨ ((wb && (element s.length a && element s.length b)) = true ∧ ((r = .error 8 ∧ ∀ θ,Holds θ 0 s → ap θ a = ap θ b → False) ∨ ∃ R,UniT s a b R ∧ r = if shallow R a = true then .ok R else .error 2))) (hr : RSpec s a b r') : r = r':=by
 have hpre : (wb && (element s.length a && element s.length b)) = true ↔ PreP s a b:=by
  simp only [Bool.and_eq_true]
  constructor
  ·rintro ⟨h1,h2,h3⟩
   have h2:=element_iff.1 h2
   have h3:=element_iff.1 h3
   exact ⟨(wf_formed hn hs hw).1 h1,h2.1,h3.1,h2.2,h3.2⟩
  ·intro h
   exact ⟨(wf_formed hn hs hw).2 h.fs,element_iff.2 ⟨h.oa,h.da⟩,element_iff.2 ⟨h.ob,h.db⟩⟩
 rcases hc with ⟨h1,rfl⟩ | ⟨h1,hc⟩
 ·rcases hr with ⟨_,rfl⟩ | ⟨h2,_⟩
  ·rfl
  ·rw [hpre.2 h2] at h1;cases h1
 ·have hP:=hpre.1 h1
  rcases hr with ⟨h2,_⟩ | ⟨_,hr⟩
  ·exact absurd hP h2
  ·have hps : ∀ p ∈ [(a,b)],over s.length p.1 = true ∧ over s.length p.2 = true:=fun p hp => by rw [List.mem_singleton] at hp;subst hp;exact ⟨hP.oa,hP.ob⟩
   have heq : ∀ θ,Eqs θ [(a,b)] ↔ ap θ a = ap θ b:=fun θ => by
    rw [Eqs.cons]
    exact ⟨fun h => h.1,fun h => ⟨h,fun p hp => by cases hp⟩⟩
   rcases hr with ⟨hq,rfl⟩ | ⟨t,hq,za,hza,hr⟩
   ·have hsp:=rsol_spec hq hP.fs.okl hps
    rcases hc with ⟨rfl,_⟩ | ⟨R,hR,_⟩
    ·rfl
    ·exact absurd ((heq _).2 hR.eq) (hsp _ hR.hol)
   ·have hsp:=rsol_spec hq hP.fs.okl hps
    have hto : Okl t:=hsp.1
    have htn : t.length = s.length:=hsp.2.1
    have htr:=rsol_ranked hq hP.fs.okl hP.fs.ranked hps t rfl
    have hh : ∀ θ,Holds θ 0 t ↔ (Holds θ 0 s ∧ ap θ a = ap θ b):=fun θ => by rw [hsp.2.2 θ,heq]
    have hoa : over t.length a = true:=by rw [htn];exact hP.oa
    rcases hc with ⟨rfl,hno⟩ | ⟨R,hR,rfl⟩
    ·obtain ⟨θ,hθ,_⟩:=holds_ex hto.vin htr
     obtain ⟨k1,k2⟩:=(hh θ).1 hθ
     exact (hno θ k1 k2).elim
    ·rcases hr with ⟨hno,rfl⟩ | ⟨h2,h3,fr,L,hL,rfl⟩
     ·obtain ⟨fr,L,hL⟩:=least_ex hto htr
      have e:=hR.unique (least_unit hto htr htn hh hL)
      subst e
      rw [if_neg (fun h => hno ((least_shallow hto htr hL hoa hza).1 h))]
     ·have e:=hR.unique (least_unit hto htr htn hh hL)
      subst e
      rw [if_pos ((least_shallow hto htr hL hoa hza).2 ⟨h2,h3⟩)]
end Un
end Go.Proofs.Ytcdlnhfgehhkcaa
