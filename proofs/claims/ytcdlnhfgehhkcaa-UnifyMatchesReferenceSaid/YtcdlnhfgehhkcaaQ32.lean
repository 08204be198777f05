/- part of the proof -/
import Derived.Test.YtcdlnhfgehhkcaaQ31
set_option linter.unusedVariables false
set_option linter.unusedSimpArgs false
set_option linter.unusedSectionVars false
namespace Go.Proofs.Ytcdlnhfgehhkcaa
open Go.RowKit Go.Lib
open Un (kd nm ar)
namespace Un
structure Rt (n : Nat) (ts : List Tm) (rt : Nat → Nat) : Prop where
 nx : ∀ (i : Nat) (a : Tm),ts[i]? = some a → rt i = rt a.next.toNat
 root : ∀ (i : Nat) (a : Tm),ts[i]? = some a → a.next = i → rt i = i
 up : ∀ i : Nat,n ≤ i → n ≤ rt i
 lt : ∀ i : Nat,i < ts.length → rt i < ts.length
 id : ∀ i : Nat,rt (rt i) = rt i
 out : ∀ i : Nat,ts.length ≤ i → rt i = i
theorem fresh_rt (n : Nat) : Rt n (fresh n) (fun i => i):=
 ⟨fun i a h => by obtain ⟨_,rfl⟩:=fresh_next h;simp,fun i a _ _ => rfl,fun i h => h,fun i h => h,fun i => rfl,fun i _ => rfl⟩
theorem AddR.rt {n A : Nat} {ts ts' : List Tm} (h : AddR n A ts ts') {rt : Nat → Nat} (hr : Rt n ts rt) : Rt n ts' rt:=by
 have key : ∀ (i : Nat) (a : Tm),ts'[i]? = some a → (ts[i]? = some a ∧ i < ts.length) ∨ (ts.length ≤ i ∧ a.next = i):=fun i a ha => by
  by_cases h1 : ts.length ≤ i
  ·exact .inr ⟨h1,h.new i a h1 ha⟩
  ·have h2:=List.getElem?_eq_getElem (l:=ts) (i:=i) (by omega)
   have h3:=h.pre i _ h2
   rw [ha] at h3
   cases h3
   exact .inl ⟨h2,by omega⟩
 have hl:=h.len
 refine ⟨fun i a ha => ?_,fun i a ha hn => ?_,hr.up,fun i hi => ?_,hr.id,fun i hi => hr.out i (by omega)⟩
 ·rcases key i a ha with ⟨h1,_⟩ | ⟨_,h1⟩
  ·exact hr.nx i a h1
  ·rw [h1,Int.toNat_natCast]
 ·rcases key i a ha with ⟨h1,_⟩ | ⟨h1,_⟩
  ·exact hr.root i a h1 hn
  ·exact hr.out i h1
 ·by_cases h1 : i < ts.length
  ·have:=hr.lt i h1;omega
  ·rw [hr.out i (by omega)];exact hi
theorem root_next {ts : List Tm} {i : Nat} {a : Tm} (ha : ts[i]? = some a) : isRoot ts i = (a.next == (i : Int)):=by unfold isRoot;rw [ha]
theorem Rt.halve {n : Nat} {rk : Nat → Nat} {ts : List Tm} {rt : Nat → Nat} (h : Rt n ts rt) (hf : Fo n rk ts) {i : Nat} {a c : Tm} (ha : ts[i]? = some a) (hc : tm? ts a.next = some c) (hne : a.next ≠ i) : Rt n (setNext ts i c.next) rt:=by
 obtain ⟨k1,k2,_⟩:=hf.halve ha hc hne
 obtain ⟨_,_,hcg⟩:=tm_get hc
 have hl:=setNext_len ts i c.next
 refine ⟨fun j b hb => ?_,fun j b hb hn => ?_,h.up,fun j hj => by rw [hl] at hj ⊢;exact h.lt j hj,h.id,fun j hj => h.out j (by rw [hl] at hj;exact hj)⟩
 ·rw [setNext_get] at hb
  by_cases e : j = i
  ·subst e
   rw [if_pos rfl,ha] at hb
   cases hb
   rw [h.nx j a ha,h.nx _ c hcg]
  ·rw [if_neg e] at hb
   exact h.nx j b hb
 ·have h1:=k2 j
  rw [root_next hb,hn] at h1
  unfold isRoot at h1
  cases hb' : ts[j]? with
  | none => rw [hb'] at h1;simp at h1
  | some b' =>
   rw [hb'] at h1
   exact h.root j b' hb' (by simpa using h1.symm)
theorem speaker_rt {n : Nat} {rk rt : Nat → Nat} : ∀ {f : Nat} {ts ts' : List Tm} {i r : Int},speaker f ts i = some (ts',r) → Fo n rk ts → Rt n ts rt → Rt n ts' rt ∧ Fo n rk ts' ∧ core ts' = core ts ∧ 0 ≤ r ∧ rt i.toNat = r.toNat ∧ rt r.toNat = r.toNat ∧ ∃ a,ts'[r.toNat]? = some a ∧ a.next = r
 | 0,ts,ts',i,r,h,_,_ => by cases h
 | f + 1,ts,ts',i,r,h,hf,hr => by
  rw [speaker] at h
  cases ha : tm? ts i with
  | none => rw [ha] at h;cases h
  | some a =>
   rw [ha] at h
   simp only at h
   obtain ⟨i0,_,hag⟩:=tm_get ha
   obtain ⟨k,rfl⟩ : ∃ k : Nat,i = k:=⟨i.toNat,by omega⟩
   rw [Int.toNat_natCast] at hag h
   split at h
   ·rename_i e
    cases h
    rw [Int.toNat_natCast]
    have:=hr.root k a hag e
    exact ⟨hr,hf,rfl,i0,this,this,a,hag,e⟩
   ·rename_i e
    cases hc : tm? ts a.next with
    | none => rw [hc] at h;cases h
    | some c =>
     rw [hc] at h
     simp only at h
     obtain ⟨k1,_⟩:=hf.halve hag hc e
     obtain ⟨g1,g2,g3,g4,g5,g6,g7⟩:=speaker_rt h k1 (hr.halve hf hag hc e)
     obtain ⟨_,_,hcg⟩:=tm_get hc
     refine ⟨g1,g2,g3.trans (setNext_core ts k c.next),g4,?_,g6,g7⟩
     rw [← g5,Int.toNat_natCast,hr.nx k a hag,hr.nx _ c hcg]
def Rel (rt : Nat → Nat) (ps : List (Int × Int)) (x y : Int) : Prop:=∀ g : Nat → Nat,(∀ i j,rt i = rt j → g i = g j) → (∀ p ∈ ps,g p.1.toNat = g p.2.toNat) → g x.toNat = g y.toNat
theorem Rel.refl (rt : Nat → Nat) (ps : List (Int × Int)) (x : Int) : Rel rt ps x x:=fun _ _ _ => rfl
theorem Rel.symm {rt : Nat → Nat} {ps : List (Int × Int)} {x y : Int} (h : Rel rt ps x y) : Rel rt ps y x:=fun g h1 h2 => (h g h1 h2).symm
theorem Rel.trans {rt : Nat → Nat} {ps : List (Int × Int)} {x y z : Int} (h : Rel rt ps x y) (k : Rel rt ps y z) : Rel rt ps x z:=fun g h1 h2 => (h g h1 h2).trans (k g h1 h2)
theorem Rel.mono {rt rt' : Nat → Nat} {ps ps' : List (Int × Int)} {x y : Int} (h : Rel rt ps x y) (hr : ∀ i j,rt i = rt j → rt' i = rt' j) (hp : ∀ p ∈ ps,p ∈ ps' ∨ rt' p.1.toNat = rt' p.2.toNat) : Rel rt' ps' x y:=fun g h1 h2 =>
 h g (fun i j e => h1 i j (hr i j e)) (fun p hm => (hp p hm).elim (h2 p) (h1 _ _))
theorem Rel.same {rt : Nat → Nat} {x y : Int} (h : Rel rt [] x y) : rt x.toNat = rt y.toNat:=h rt (fun _ _ e => e) (fun p hp => by cases hp)
def Cong (n : Nat) (ts : List Tm) (rt : Nat → Nat) (ps : List (Int × Int)) : Prop:=∀ (i j : Nat) (a b : Tm),n ≤ i → n ≤ j → ts[i]? = some a → ts[j]? = some b → rt i = rt j →
 headOk a b = true ∧ ∀ (k : Nat) (x y : Int),a.args[k]? = some x → b.args[k]? = some y → Rel rt ps x y
theorem Cong.more {n : Nat} {ts : List Tm} {rt : Nat → Nat} (h : Cong n ts rt []) (ps : List (Int × Int)) : Cong n ts rt ps:=fun i j a b hi hj ha hb e => by
 obtain ⟨k1,k2⟩:=h i j a b hi hj ha hb e
 exact ⟨k1,fun k x y hx hy => (k2 k x y hx hy).mono (fun _ _ e => e) (fun p hp => by cases hp)⟩
theorem headOk_core {a b a' b' : Tm} (h1 : a'.t = a.t) (h2 : a'.args = a.args) (h3 : b'.t = b.t) (h4 : b'.args = b.args) : headOk a' b' = headOk a b:=by
 unfold headOk;rw [h1,h2,h3,h4]
theorem Cong.of_core {n : Nat} {ts ts' : List Tm} {rt : Nat → Nat} {ps : List (Int × Int)} (h : Cong n ts rt ps) (hc : core ts' = core ts) : Cong n ts' rt ps:=by
 intro i j a b hi hj ha hb e
 obtain ⟨a',h1,h2,h3⟩:=core_get hc.symm ha
 obtain ⟨b',h4,h5,h6⟩:=core_get hc.symm hb
 obtain ⟨k1,k2⟩:=h i j a' b' hi hj h1 h4 e
 rw [h3,h6] at k2
 exact ⟨by rw [headOk_core h2.symm h3.symm h5.symm h6.symm];exact k1,k2⟩
theorem fresh_cong (n : Nat) (rt : Nat → Nat) (ps : List (Int × Int)) : Cong n (fresh n) rt ps:=fun i j a b hi hj ha hb _ => by
 obtain ⟨h,_⟩:=fresh_next ha
 omega
theorem headOk_self (a : Tm) : headOk a a = true:=by unfold headOk;simp
theorem AddR.cong {n A : Nat} {ts ts' : List Tm} (h : AddR n A ts ts') {rt : Nat → Nat} (hr : Rt n ts rt) {ps : List (Int × Int)} (hc : Cong n ts rt ps) : Cong n ts' rt ps:=by
 have key : ∀ (i : Nat) (a : Tm),ts'[i]? = some a → (ts[i]? = some a ∧ i < ts.length) ∨ ts.length ≤ i:=fun i a ha => by
  by_cases h1 : ts.length ≤ i
  ·exact .inr h1
  ·have h2:=List.getElem?_eq_getElem (l:=ts) (i:=i) (by omega)
   have h3:=h.pre i _ h2
   rw [ha] at h3
   cases h3
   exact .inl ⟨h2,by omega⟩
 intro i j a b hi hj ha hb e
 rcases key i a ha with ⟨h1,l1⟩ | h1
 ·rcases key j b hb with ⟨h2,l2⟩ | h2
  ·exact hc i j a b hi hj h1 h2 e
  ·have:=hr.lt i l1
   rw [e,hr.out j h2] at this
   omega
 ·rcases key j b hb with ⟨h2,l2⟩ | h2
  ·have:=hr.lt j l2
   rw [← e,hr.out i h1] at this
   omega
  ·rw [hr.out i h1,hr.out j h2] at e
   subst e
   rw [ha] at hb
   cases hb
   exact ⟨headOk_self a,fun k x y hx hy => by rw [hx] at hy;cases hy;exact Rel.refl _ _ _⟩
def ledTo (rt : Nat → Nat) (u v : Nat) (i : Nat) : Nat:=if rt i = u then v else rt i
theorem ledTo_same {rt : Nat → Nat} (u v : Nat) (i j : Nat) (h : rt i = rt j) : ledTo rt u v i = ledTo rt u v j:=by unfold ledTo;rw [h]
theorem Rt.link {n : Nat} {ts : List Tm} {rt : Nat → Nat} (h : Rt n ts rt) {u v : Nat} {au av : Tm} (hu : ts[u]? = some au) (hun : au.next = u) (hv : ts[v]? = some av) (hvn : av.next = v) (hne : u ≠ v) (hup : n ≤ u → n ≤ v) : Rt n (setNext ts u v) (ledTo rt u v):=by
 have ru:=h.root u au hu hun
 have rv:=h.root v av hv hvn
 have ul:=(List.getElem?_eq_some_iff.1 hu).1
 have vl:=(List.getElem?_eq_some_iff.1 hv).1
 have lv : ledTo rt u v v = v:=by unfold ledTo;rw [rv,if_neg (by omega)]
 have lu : ledTo rt u v u = v:=by unfold ledTo;rw [if_pos ru]
 have hl:=setNext_len ts u (v : Int)
 refine ⟨fun i a ha => ?_,fun i a ha hn => ?_,fun i hi => ?_,fun i hi => ?_,fun i => ?_,fun i hi => ?_⟩
 ·rw [setNext_get] at ha
  by_cases e : i = u
  ·subst e
   rw [if_pos rfl,hu] at ha
   cases ha
   rw [lu]
   show v = ledTo rt i v ((v : Int)).toNat
   rw [Int.toNat_natCast,lv]
  ·rw [if_neg e] at ha
   exact ledTo_same u v _ _ (h.nx i a ha)
 ·rw [setNext_get] at ha
  by_cases e : i = u
  ·subst e
   rw [if_pos rfl,hu] at ha
   cases ha
   have : (v : Int) = i:=hn
   omega
  ·rw [if_neg e] at ha
   have:=h.root i a ha hn
   unfold ledTo
   rw [this,if_neg e]
 ·have:=h.up i hi
  unfold ledTo
  split
  ·rename_i e;exact hup (by omega)
  ·exact this
 ·rw [hl] at hi ⊢
  unfold ledTo
  split
  ·exact vl
  ·exact h.lt i hi
 ·by_cases e : rt i = u
  ·have : ledTo rt u v i = v:=by unfold ledTo;rw [if_pos e]
   rw [this,lv]
  ·have : ledTo rt u v i = rt i:=by unfold ledTo;rw [if_neg e]
   rw [this]
   unfold ledTo
   rw [h.id,if_neg e]
 ·rw [hl] at hi
  have:=h.out i hi
  unfold ledTo
  rw [this,if_neg (by omega)]
theorem headOk_symm {a b : Tm} (h : headOk a b = true) : headOk b a = true:=by
 unfold headOk at h ⊢
 simp only [Bool.and_eq_true,beq_iff_eq,decide_eq_true_eq] at h ⊢
 exact ⟨⟨h.1.1.symm,h.1.2.symm⟩,h.2.symm⟩
theorem headOk_trans {a b c : Tm} (h : headOk a b = true) (k : headOk b c = true) : headOk a c = true:=by
 unfold headOk at h k ⊢
 simp only [Bool.and_eq_true,beq_iff_eq,decide_eq_true_eq] at h k ⊢
 exact ⟨⟨h.1.1.trans k.1.1,h.1.2.trans k.1.2⟩,h.2.trans k.2⟩
theorem headOk_len {a b : Tm} (h : headOk a b = true) : a.args.length = b.args.length:=by
 unfold headOk at h
 simp only [Bool.and_eq_true,decide_eq_true_eq] at h
 exact h.2
theorem Cong.link {n : Nat} {ts : List Tm} {rt : Nat → Nat} {ps ps' : List (Int × Int)} (hr : Rt n ts rt) (h : Cong n ts rt ps) {u v : Nat} {au av : Tm} (hu : ts[u]? = some au) (hun : au.next = u) (hv : ts[v]? = some av) (hvn : av.next = v)
  (hp : ∀ p ∈ ps,p ∈ ps' ∨ ledTo rt u v p.1.toNat = ledTo rt u v p.2.toNat) (hz : n ≤ u → headOk au av = true ∧ ∀ z ∈ au.args.zip av.args,z ∈ ps') : Cong n ts (ledTo rt u v) ps':=by
 have ru:=hr.root u au hu hun
 have rv:=hr.root v av hv hvn
 have up : ∀ {x y : Int},Rel rt ps x y → Rel (ledTo rt u v) ps' x y:=fun h => h.mono (ledTo_same u v) hp
 have half : ∀ (i j : Nat) (a b : Tm),n ≤ i → n ≤ j → ts[i]? = some a → ts[j]? = some b → rt i = u → rt j = v → headOk a b = true ∧ ∀ (k : Nat) (x y : Int),a.args[k]? = some x → b.args[k]? = some y → Rel (ledTo rt u v) ps' x y:=fun i j a b hi hj ha hb ei ej => by
  have hnu : n ≤ u:=by rw [← ei];exact hr.up i hi
  have hnv : n ≤ v:=by rw [← ej];exact hr.up j hj
  obtain ⟨z1,z2⟩:=hz hnu
  obtain ⟨c1,c2⟩:=h i u a au hi hnu ha hu (by rw [ei,ru])
  obtain ⟨d1,d2⟩:=h v j av b hnv hj hv hb (by rw [ej,rv])
  refine ⟨headOk_trans (headOk_trans c1 z1) d1,fun k x y hx hy => ?_⟩
  have l1:=headOk_len c1
  have l2:=headOk_len z1
  have kx:=(List.getElem?_eq_some_iff.1 hx).1
  have g1:=List.getElem?_eq_getElem (l:=au.args) (i:=k) (by omega)
  have g2:=List.getElem?_eq_getElem (l:=av.args) (i:=k) (by omega)
  have hm : (au.args[k]'(by omega),av.args[k]'(by omega)) ∈ au.args.zip av.args:=by
   rw [List.mem_iff_getElem?]
   exact ⟨k,by rw [List.getElem?_eq_getElem (by simp;omega),List.getElem_zip]⟩
  refine ((up (c2 k x _ hx g1)).trans ?_).trans (up (d2 k _ y g2 hy))
  exact fun g _ hg => hg _ (z2 _ hm)
 intro i j a b hi hj ha hb e
 by_cases ei : rt i = u
 ·by_cases ej : rt j = u
  ·obtain ⟨k1,k2⟩:=h i j a b hi hj ha hb (by rw [ei,ej])
   exact ⟨k1,fun k x y hx hy => up (k2 k x y hx hy)⟩
  ·unfold ledTo at e
   rw [if_pos ei,if_neg ej] at e
   exact half i j a b hi hj ha hb ei e.symm
 ·by_cases ej : rt j = u
  ·unfold ledTo at e
   rw [if_neg ei,if_pos ej] at e
   obtain ⟨k1,k2⟩:=half j i b a hj hi hb ha ej e
   exact ⟨headOk_symm k1,fun k x y hx hy => (k2 k y x hy hx).symm⟩
  ·unfold ledTo at e
   rw [if_neg ei,if_neg ej] at e
   obtain ⟨k1,k2⟩:=h i j a b hi hj ha hb e
   exact ⟨k1,fun k x y hx hy => up (k2 k x y hx hy)⟩
structure JoinC (n : Nat) (ts : List Tm) (rt : Nat → Nat) (ps : List (Int × Int)) (ts' : List Tm) (rt' : Nat → Nat) : Prop where
 rts : Rt n ts' rt'
 cong : Cong n ts' rt' []
 fo : ∃ rk,Fo n rk ts'
 core : core ts' = core ts
 up : ∀ i j,rt i = rt j → rt' i = rt' j
 ps : ∀ p ∈ ps,rt' p.1.toNat = rt' p.2.toNat
theorem joinG_rt {n fs : Nat} : ∀ {f : Nat} {ts ts' : List Tm} {ps : List (Int × Int)} {rt : Nat → Nat},joinG fs f n ts ps = some (some ts') → (∃ rk,Fo n rk ts) → Rt n ts rt → Cong n ts rt ps → ∃ rt',JoinC n ts rt ps ts' rt'
 | 0,ts,ts',ps,rt,h,_,_,_ => by simp [joinG] at h
 | f + 1,ts,ts',ps,rt,h,hfo,hr,hc => by
  rcases List.eq_nil_or_concat ps with rfl | ⟨qs,⟨x,y⟩,rfl⟩
  ·rw [joinG_nil] at h
   cases h
   exact ⟨rt,hr,hc,hfo,rfl,fun _ _ e => e,fun p hp => by cases hp⟩
  ·rw [List.concat_eq_append] at h hc ⊢
   obtain ⟨rk,hfo⟩:=hfo
   obtain ⟨t1,a,t2,b,h1,h2,hcase⟩:=joinG_step h
   obtain ⟨r1,f1,c1,a0,ra,raa,_⟩:=speaker_rt h1 hfo hr
   obtain ⟨r2,f2,c2,b0,rb,rbb,q,hq,hqn⟩:=speaker_rt h2 f1 r1
   obtain ⟨ia,rfl⟩ : ∃ k : Nat,a = k:=⟨a.toNat,by omega⟩
   obtain ⟨ib,rfl⟩ : ∃ k : Nat,b = k:=⟨b.toNat,by omega⟩
   rw [Int.toNat_natCast] at ra raa rb rbb hq
   have c12 : core t2 = core ts:=c2.trans c1
   have hc2:=hc.of_core c12
   have hpa : ∃ p,t2[ia]? = some p ∧ p.next = (ia : Int):=by
    obtain ⟨_,_,_,_,_,_,p1,hp1,hp1n⟩:=speaker_rt h1 hfo hr
    rw [Int.toNat_natCast] at hp1
    obtain ⟨p,hp,_,_⟩:=core_get c2 hp1
    refine ⟨p,hp,?_⟩
    have key : ∀ {f : Nat} {ts ts' : List Tm} {i r : Int},speaker f ts i = some (ts',r) → Fo n rk ts → ∀ j,isRoot ts' j = isRoot ts j:=by
     intro f
     induction f with
     | zero => intro ts ts' i r h;cases h
     | succ f ih =>
      intro ts ts' i r h hf j
      rw [speaker] at h
      cases ha : tm? ts i with
      | none => rw [ha] at h;cases h
      | some a =>
       rw [ha] at h
       simp only at h
       obtain ⟨i0,_,hag⟩:=tm_get ha
       split at h
       ·cases h;rfl
       ·rename_i e
        cases hcc : tm? ts a.next with
        | none => rw [hcc] at h;cases h
        | some c =>
         rw [hcc] at h
         simp only at h
         obtain ⟨k1,k2,_⟩:=hf.halve hag hcc (by rw [Int.toNat_of_nonneg i0];exact e)
         rw [ih h k1 j,k2 j]
    have h5:=key h2 f1 ia
    rw [root_next hp,root_next hp1] at h5
    have : (p1.next == (ia : Int)) = true:=by rw [hp1n];simp
    rw [this] at h5
    simpa using h5
   obtain ⟨p,hp,hpn⟩:=hpa
   have hlink : ∀ (u v : Nat) (au av : Tm),t2[u]? = some au → au.next = u → t2[v]? = some av → av.next = v → u ≠ v → (n ≤ u → n ≤ v) → ∀ zs : List (Int × Int),ledTo rt u v x.toNat = ledTo rt u v y.toNat → (n ≤ u → headOk au av = true ∧ zs = au.args.zip av.args) →
     joinG fs f n (setNext t2 u v) (qs ++ zs) = some (some ts') → ∃ rt',JoinC n ts rt (qs ++ [(x,y)]) ts' rt':=fun u v au av hu hun hv hvn hne hup zs hxy hz hj => by
    obtain ⟨k1,_,_⟩:=f2.link hu hun hv hvn hne hup
    have hcl : Cong n t2 (ledTo rt u v) (qs ++ zs):=Cong.link r2 hc2 hu hun hv hvn (fun p hm => by
     rcases List.mem_append.1 hm with hm | hm
     ·exact .inl (List.mem_append.2 (.inl hm))
     ·rw [List.mem_singleton] at hm
      subst hm
      exact .inr hxy) (fun hnu => ⟨(hz hnu).1,fun z hm => List.mem_append.2 (.inr (by rw [(hz hnu).2];exact hm))⟩)
    obtain ⟨rt',g⟩:=joinG_rt hj k1 (r2.link hu hun hv hvn hne hup) (hcl.of_core (setNext_core t2 u v))
    refine ⟨rt',g.rts,g.cong,g.fo,(g.core.trans (setNext_core t2 u v)).trans c12,fun i j e => g.up i j (ledTo_same u v i j e),fun z hm => ?_⟩
    rcases List.mem_append.1 hm with hm | hm
    ·exact g.ps z (List.mem_append.2 (.inl hm))
    ·rw [List.mem_singleton] at hm
     subst hm
     exact g.up _ _ hxy
   have hne' : (ia : Int) ≠ ib → ia ≠ ib:=fun h => by omega
   rcases hcase with ⟨e,hj⟩ | ⟨e,e2,hj⟩ | ⟨e,e2,e3,hj⟩ | ⟨e,e2,e3,p',q',hp',hq',⟨h5,hj⟩ | ⟨h5,hn⟩⟩
   ·have e' : ia = ib:=by omega
    obtain ⟨rt',g⟩:=joinG_rt hj ⟨rk,f2⟩ r2 (fun i j a b hi hj ha hb hij => by
     obtain ⟨k1,k2⟩:=hc2 i j a b hi hj ha hb hij
     exact ⟨k1,fun k u v hu hv => (k2 k u v hu hv).mono (fun _ _ e => e) (fun p hm => by
      rcases List.mem_append.1 hm with hm | hm
      ·exact .inl hm
      ·rw [List.mem_singleton] at hm
       subst hm
       exact .inr (by rw [ra,rb,e']))⟩)
    refine ⟨rt',g.rts,g.cong,g.fo,g.core.trans c12,g.up,fun z hm => ?_⟩
    rcases List.mem_append.1 hm with hm | hm
    ·exact g.ps z hm
    ·rw [List.mem_singleton] at hm
     subst hm
     exact g.up _ _ (by rw [ra,rb,e'])
   ·rw [Int.toNat_natCast] at hj
    exact hlink ia ib p q hp hpn hq hqn (hne' e) (by omega) [] (by unfold ledTo;rw [ra,rb,if_pos rfl];split <;> rfl) (fun h => by omega) (by rw [List.append_nil];exact hj)
   ·rw [Int.toNat_natCast] at hj
    exact hlink ib ia q p hq hqn hp hpn (fun h => hne' e h.symm) (by omega) [] (by unfold ledTo;rw [ra,rb,if_pos rfl];split <;> rfl) (fun h => by omega) (by rw [List.append_nil];exact hj)
   ·rw [Int.toNat_natCast] at hj
    rw [tm_nat hp] at hp'
    rw [tm_nat hq] at hq'
    cases hp'
    cases hq'
    exact hlink ia ib p q hp hpn hq hqn (hne' e) (by omega) _ (by unfold ledTo;rw [ra,rb,if_pos rfl];split <;> rfl) (fun _ => ⟨h5,rfl⟩) hj
   ·cases hn
end Un
open Go.RowKit Go.Lib
open Un (kd nm ar)
namespace Un
structure NewC (n i : Nat) (l : List Ty) (ts : List Tm) (rt : Nat → Nat) (ts' : List Tm) (rt' : Nat → Nat) : Prop where
 rts : Rt n ts' rt'
 cong : Cong n ts' rt' []
 up : ∀ i j,rt i = rt j → rt' i = rt' j
 pre : ∀ (k : Nat) (c : Tm),ts[k]? = some c → ∃ c',ts'[k]? = some c' ∧ c'.t = c.t
 el : ∀ (j : Nat) (t : Ty),l[j]? = some t → unsolved t = true ∨ ∃ (k : Nat) (c : Tm),ts'[k]? = some c ∧ c.t = t ∧ rt' (i + j) = rt' k
theorem newS_rt {n fs f A : Nat} : ∀ {l : List Ty} {i : Nat} {ts ts' : List Tm} {rt : Nat → Nat},newS fs f n i l ts = some (some ts') → (∀ t ∈ l,unsolved t = true ∨ (vin n t = true ∧ size t ≤ A)) → St n ts → (∃ rk,Fo n rk ts) → Rt n ts rt → Cong n ts rt [] → ∃ rt',NewC n i l ts rt ts' rt'
 | [],i,ts,ts',rt,h,_,_,_,hr,hc => by
  rw [newS] at h
  cases h
  exact ⟨rt,hr,hc,fun _ _ e => e,fun k c hk => ⟨c,hk,rfl⟩,fun j t h => by simp at h⟩
 | t :: l,i,ts,ts',rt,h,hl,hst,hfo,hr,hc => by
  rcases newS_none h with ⟨hu,h1⟩ | ⟨hu,t1,hj,h1⟩
  ·obtain ⟨rt',g⟩:=newS_rt h1 (fun u hu => hl u (by simp [hu])) hst hfo hr hc
   refine ⟨rt',g.rts,g.cong,g.up,g.pre,fun j u hj => ?_⟩
   cases j with
   | zero =>
    simp only [List.getElem?_cons_zero,Option.some.injEq] at hj
    subst hj
    exact .inl hu
   | succ j =>
    simp only [List.getElem?_cons_succ] at hj
    have:=g.el j u hj
    rwa [show i + 1 + j = i + (j + 1) by omega] at this
  ·have hlt:=(hl t (by simp)).resolve_left (by simp [hu])
   obtain ⟨h2,a,ha,hat⟩:=add_ok n A t ts hst hlt.1 hlt.2
   obtain ⟨rk,hfo⟩:=hfo
   have hst1:=h2.st hst
   obtain ⟨rt1,g1⟩:=joinG_rt hj ⟨rk,h2.fo hst.le hfo⟩ (h2.rt hr) ((h2.cong hr hc).more _)
   obtain ⟨rt',g⟩:=newS_rt h1 (fun u hu => hl u (by simp [hu])) (hst1.of_core g1.core) g1.fo g1.rts g1.cong
   refine ⟨rt',g.rts,g.cong,fun i j e => g.up i j (g1.up i j e),fun k c hk => ?_,fun j u hj => ?_⟩
   ·obtain ⟨c1,k1,k2,_⟩:=core_get g1.core (h2.pre k c hk)
    obtain ⟨c2,k3,k4⟩:=g.pre k c1 k1
    exact ⟨c2,k3,k4.trans k2⟩
   ·cases j with
    | zero =>
     simp only [List.getElem?_cons_zero,Option.some.injEq] at hj
     subst hj
     right
     obtain ⟨_,_,hag⟩:=tm_get ha
     obtain ⟨c1,k1,k2,_⟩:=core_get g1.core hag
     obtain ⟨c2,k3,k4⟩:=g.pre _ c1 k1
     refine ⟨_,c2,k3,(k4.trans k2).trans hat,g.up _ _ ?_⟩
     have:=g1.ps ((i : Int),(add ts t).2) (by simp)
     simpa using this
    | succ j =>
     simp only [List.getElem?_cons_succ] at hj
     have:=g.el j u hj
     rwa [show i + 1 + j = i + (j + 1) by omega] at this
structure SolK (n : Nat) (rk : Nat → Nat) (ts : List Tm) (rt : Nat → Nat) (i : Nat) (y : List Tm × (Int → Option Int) × List Ty) : Prop where
 rts : Rt n y.1 rt
 fo : Fo n rk y.1
 core : core y.1 = core ts
 len : y.2.2.length = n
 lst : ∀ (sp k : Int),y.2.1 sp = some k → ∃ f : Nat,k = f ∧ f < i ∧ sp = rt f
 el : ∀ v : Nat,v < i → ∃ f : Nat,y.2.1 ((rt v : Nat) : Int) = some (f : Int) ∧ ((f < v ∧ y.2.2[v]? = some (var f)) ∨ (f = v ∧ ((n ≤ rt v ∧ ∃ a,ts[rt v]? = some a ∧ y.2.2[v]? = some a.t) ∨ rt v < n)))
theorem sol_rt {n fs : Nat} {rk : Nat → Nat} {ts : List Tm} {rt : Nat → Nat} (hr : Rt n ts rt) (hfo : Fo n rk ts) (hle : n ≤ ts.length) : ∀ {i : Nat} {y : List Tm × (Int → Option Int) × List Ty},i ≤ n → sol fs n ts i = some y → SolK n rk ts rt i y
 | 0,y,_,h => by
  rw [sol] at h
  cases h
  exact ⟨hr,hfo,rfl,by simp,fun sp k h => (by cases h),fun v hv => by omega⟩
 | i + 1,y,hi,h => by
  rw [sol] at h
  cases hx : sol fs n ts i with
  | none => rw [hx] at h;cases h
  | some x =>
   rw [hx] at h
   have g:=sol_rt hr hfo hle (by omega) hx
   unfold solStep at h
   simp only at h
   cases hs : speaker fs x.1 i with
   | none => rw [hs] at h;cases h
   | some z =>
    obtain ⟨ts2,sp⟩:=z
    rw [hs] at h
    simp only at h
    obtain ⟨r2,f2,c2,sp0,h5,h6,q,hq,_⟩:=speaker_rt hs g.fo g.rts
    rw [Int.toNat_natCast] at h5
    have hsp : sp = ((rt i : Nat) : Int):=by omega
    have hin : i < x.2.2.length:=by rw [g.len];omega
    cases hk : x.2.1 sp with
    | some k =>
     rw [hk] at h
     simp only [Option.some.injEq] at h
     subst h
     obtain ⟨f,rfl,hf,hff⟩:=g.lst sp k hk
     refine ⟨r2,f2,c2.trans g.core,by simp [g.len],fun sp' k' h' => ?_,fun v hv => ?_⟩
     ·obtain ⟨f',e1,e2,e3⟩:=g.lst sp' k' h'
      exact ⟨f',e1,by omega,e3⟩
     ·by_cases e : v = i
      ·subst e
       exact ⟨f,by rw [← hsp];exact hk,.inl ⟨hf,List.getElem?_set_self hin⟩⟩
      ·obtain ⟨f',e1,e2⟩:=g.el v (by omega)
       refine ⟨f',e1,?_⟩
       simp only
       rw [List.getElem?_set_ne (by omega)]
       exact e2
    | none =>
     rw [hk] at h
     simp only [Option.some.injEq] at h
     subst h
     have hcc : core ts2 = core ts:=c2.trans g.core
     obtain ⟨p,hp,hpt,_⟩:=core_get hcc.symm hq
     have hne : ∀ v,v < i → ((rt v : Nat) : Int) ≠ sp:=fun v hv e => by
      obtain ⟨f',e1,_⟩:=g.el v hv
      rw [e,hk] at e1
      cases e1
     refine ⟨r2,f2,hcc,by simp only;split <;> simp [g.len],fun sp' k' h' => ?_,fun v hv => ?_⟩
     ·simp only at h'
      split at h'
      ·rename_i e
       cases h'
       exact ⟨i,rfl,by omega,by rw [e,hsp]⟩
      ·obtain ⟨f',e1,e2,e3⟩:=g.lst sp' k' h'
       exact ⟨f',e1,by omega,e3⟩
     ·by_cases e : v = i
      ·subst e
       refine ⟨v,by simp only;rw [if_pos hsp.symm],.inr ⟨rfl,?_⟩⟩
       by_cases hn : n ≤ rt v
       ·left
        refine ⟨hn,p,by rw [h5];exact hp,?_⟩
        simp only
        rw [if_pos (by omega),hq,List.getElem?_set_self hin,hpt]
        rfl
       ·right;omega
      ·obtain ⟨f',e1,e2⟩:=g.el v (by omega)
       refine ⟨f',by simp only;rw [if_neg (hne v (by omega))];exact e1,?_⟩
       have hsame : (if n ≤ sp.toNat then x.2.2.set i (((ts2[sp.toNat]?).map Tm.t).getD zero) else x.2.2)[v]? = x.2.2[v]?:=by
        split
        ·rw [List.getElem?_set_ne (by omega)]
        ·rfl
       simp only
       rw [hsame]
       exact e2
theorem uns_var (f : Int) : unsolved (var f) = false:=by unfold unsolved;simp [var,kd]
theorem cls_eq {n : Nat} {rk : Nat → Nat} {ts : List Tm} {rt : Nat → Nat} {y : List Tm × (Int → Option Int) × List Ty} {θ : Int → Ty} (hK : SolK n rk ts rt n y) (hst : St n ts) (hr : Rt n ts rt) (hc : Cong n ts rt [])
  (hP : ∀ (i : Nat) (a : Tm),n ≤ i → ts[i]? = some a → unsolved a.t = false) (hθ : Holds θ 0 y.2.2) : ∀ (i j : Nat) (a b : Tm),ts[i]? = some a → ts[j]? = some b → rt i = rt j → ap θ a.t = ap θ b.t:=by
 have hV : ∀ v : Nat,v < n → ∃ f : Nat,y.2.1 ((rt v : Nat) : Int) = some (f : Int) ∧ θ v = θ f:=fun v hv => by
  obtain ⟨f,h1,h2⟩:=hK.el v hv
  refine ⟨f,h1,?_⟩
  rcases h2 with ⟨h2,h3⟩ | ⟨h2,_⟩
  ·have:=(hθ v _ h3).resolve_left (by rw [uns_var];decide)
   rw [ap_var,Nat.zero_add] at this
   exact this.symm
  ·rw [h2]
 have hV2 : ∀ u v : Nat,u < n → v < n → rt u = rt v → θ u = θ v:=fun u v hu hv e => by
  obtain ⟨f,h1,h2⟩:=hV u hu
  obtain ⟨f',h3,h4⟩:=hV v hv
  rw [e,h3] at h1
  cases h1
  rw [h2,h4]
 have hS : ∀ (v : Nat) (a : Tm),v < n → n ≤ rt v → ts[rt v]? = some a → θ v = ap θ a.t:=fun v a hv hn ha => by
  obtain ⟨f,h1,h2⟩:=hV v hv
  obtain ⟨f',e1,hf,e2⟩:=hK.lst _ _ h1
  have e1' : f' = f:=by omega
  subst e1'
  have e2' : rt v = rt f':=by omega
  rw [h2]
  obtain ⟨f2,h3,h4⟩:=hK.el f' hf
  rw [← e2',h1] at h3
  have h3' : f2 = f':=by simp only [Option.some.injEq] at h3;omega
  subst h3'
  rcases h4 with ⟨h4,_⟩ | ⟨_,⟨_,a',h5,h6⟩ | h4⟩
  ·omega
  ·rw [← e2',ha] at h5
   cases h5
   have:=(hθ f2 _ h6).resolve_left (by rw [hP _ a hn ha];decide)
   rw [Nat.zero_add] at this
   exact this.symm
  ·omega
 have hvar : ∀ (i : Nat) (a : Tm),i < n → ts[i]? = some a → ap θ a.t = θ i:=fun i a hi ha => by rw [hst.vr i a hi ha,ap_var]
 have main : ∀ (m : Nat) (i j : Nat) (a b : Tm),ts[i]? = some a → ts[j]? = some b → rt i = rt j → size (ap θ a.t) ≤ m → ap θ a.t = ap θ b.t:=by
  intro m
  induction m with
  | zero => intro i j a b _ _ _ h;exact absurd (size_pos (ap θ a.t)) (by omega)
  | succ m ih =>
   intro i j a b ha hb e hsz
   have both : ∀ (i j : Nat) (a b : Tm),n ≤ i → n ≤ j → ts[i]? = some a → ts[j]? = some b → rt i = rt j → size (ap θ a.t) ≤ m + 1 → ap θ a.t = ap θ b.t:=by
    intro i j a b hi hj ha hb e hsz
    obtain ⟨k1,k2⟩:=hc i j a b hi hj ha hb e
    obtain ⟨n1,n2,n3⟩:=hst.nv i a hi ha
    obtain ⟨m1,m2,m3⟩:=hst.nv j b hj hb
    have hlen:=headOk_len k1
    unfold headOk at k1
    simp only [Bool.and_eq_true,beq_iff_eq,decide_eq_true_eq] at k1
    rw [ap_head n1 m1]
    refine ⟨k1.1.1,k1.1.2,?_⟩
    refine List.ext_getElem? fun k => ?_
    rw [List.getElem?_map,List.getElem?_map]
    by_cases hk : k < (ar a.t).length
    ·have g1:=List.getElem?_eq_getElem hk
     have g2:=List.getElem?_eq_getElem (l:=ar b.t) (i:=k) (by omega)
     have g3:=List.getElem?_eq_getElem (l:=a.args) (i:=k) (by omega)
     have g4:=List.getElem?_eq_getElem (l:=b.args) (i:=k) (by omega)
     obtain ⟨c,q1,q2⟩:=n3 k _ _ g3 g1
     obtain ⟨d,q3,q4⟩:=m3 k _ _ g4 g2
     obtain ⟨_,_,q5⟩:=tm_get q1
     obtain ⟨_,_,q6⟩:=tm_get q3
     have hs : size (ap θ c.t) ≤ m:=by
      rw [ap_eq θ a.t,if_neg n1] at hsz
      have:=@size_lt (kd a.t) (nm a.t) ((ar a.t).map (ap θ)) (ap θ c.t) (List.mem_map.2 ⟨_,List.mem_of_getElem? g1,by rw [q2]⟩)
      omega
     have:=ih _ _ c d q5 q6 (k2 k _ _ g3 g4).same hs
     rw [g1,g2,Option.map_some,Option.map_some,← q2,← q4,this]
    ·rw [List.getElem?_eq_none (by omega),List.getElem?_eq_none (by omega)]
   by_cases hn : n ≤ rt i
   ·have hil:=(List.getElem?_eq_some_iff.1 ha).1
    have hl:=hr.lt i hil
    have hs:=List.getElem?_eq_getElem (l:=ts) (i:=rt i) hl
    have e1 : ap θ a.t = ap θ (ts[rt i]).t:=by
     by_cases hi : i < n
     ·rw [hvar i a hi ha]
      exact hS i _ hi hn hs
     ·exact both i (rt i) a _ (by omega) hn ha hs (hr.id i).symm hsz
    have e2 : ap θ (ts[rt i]).t = ap θ b.t:=by
     by_cases hj : j < n
     ·rw [hvar j b hj hb]
      exact (hS j _ hj (by rw [← e];exact hn) (by rw [← e];exact hs)).symm
     ·exact both (rt i) j _ b hn (by omega) hs hb (by rw [hr.id,e]) (by rw [← e1];exact hsz)
    rw [e1,e2]
   ·have hi : i < n:=by
     by_cases h : i < n
     ·exact h
     ·exact absurd (hr.up i (by omega)) hn
    have hj : j < n:=by
     by_cases h : j < n
     ·exact h
     ·exact absurd (hr.up j (by omega)) (by rw [← e];exact hn)
    rw [hvar i a hi ha,hvar j b hj hb]
    exact hV2 i j hi hj e
 exact fun i j a b ha hb e => main _ i j a b ha hb e (Nat.le_refl _)
end Un
end Go.Proofs.Ytcdlnhfgehhkcaa
