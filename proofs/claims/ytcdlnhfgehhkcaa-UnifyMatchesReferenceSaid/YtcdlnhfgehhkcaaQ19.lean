/- part of the proof -/
import Derived.Test.YtcdlnhfgehhkcaaQ13
import Derived.Test.YtcdlnhfgehhkcaaQ18
import Derived.Test.YtcdlnhfgehhkcaaQ08
import Derived.Test.YtcdlnhfgehhkcaaQ09
set_option linter.unusedVariables false
set_option linter.unusedSimpArgs false
set_option linter.unusedSectionVars false
namespace Go.Proofs.Ytcdlnhfgehhkcaa
namespace Un
theorem nth_set {l : List Int} {i : Nat} {x : Int} (h : i < l.length) (j : Nat) : nth (l.set i x) (j : Int) = if j = i then x else nth l j:=by
 unfold nth
 simp only [Int.toNat_natCast]
 by_cases e : j = i
 ·subst e;rw [if_pos rfl,List.getElem?_set_self h];rfl
 ·rw [if_neg e,List.getElem?_set_ne (by omega)]
theorem above_bd : ∀ (t : Ty) (f : Int → Option Int) (lv : Int),Bd f → 0 ≤ lv → lv + size t ≤ 200000 → Bd (above t f lv):=by
 refine Un.Ty.ind fun k x al ih => ?_
 intro f lv hf h0 h1
 rw [above_eq]
 have hp:=size_pos (Ty.mk k x al)
 by_cases h : kd (Ty.mk k x al) = 9
 ·rw [if_pos h]
  have:=hf.get (nm (Ty.mk k x al))
  exact hf.upd _ (by omega) (by omega)
 ·rw [if_neg h]
  have hlt : ∀ a ∈ al,size a < size (Ty.mk k x al):=fun a ha => size_lt ha
  have key : ∀ (l : List Ty),(∀ a ∈ l,a ∈ al) → ∀ (f : Int → Option Int),Bd f → Bd (aboves l f (lv + 1)):=by
   intro l
   induction l with
   | nil => intro _ f hf;rw [aboves];exact hf
   | cons a r ihr =>
    intro hm f hf
    rw [aboves]
    have h2:=hlt a (hm a (by simp))
    exact ihr (fun b hb => hm b (by simp [hb])) _ (ih a (hm a (by simp)) f (lv + 1) hf (by omega) (by omega))
  exact key al (fun a h => h) f hf
theorem vars_bd {s : List Ty} (hs : ∀ t ∈ s,size t ≤ 90000) (e : Nat) : Bd (vars s e):=by
 unfold vars
 cases h : s[e]? with
 | none => intro j v h;cases h
 | some t => exact above_bd t _ 0 (fun j v h => by cases h) (Int.le_refl _) (by have:=hs t (List.mem_of_getElem? h);omega)
theorem plAt_mem {s : List Ty} {v : Nat} : ∀ {i : Nat} {x : Int × Int},x ∈ plAt s i v ↔ ∃ e : Nat,e < i ∧ x.1 = e ∧ vars s e v = some x.2
 | 0,x => by simp [plAt]
 | i + 1,x => by
  rw [plAt,List.mem_append,plAt_mem (i:=i)]
  unfold plOf
  constructor
  ·rintro (⟨e,h1,h2,h3⟩ | h)
   ·exact ⟨e,by omega,h2,h3⟩
   ·cases h1 : vars s i v with
    | none => rw [h1] at h;cases h
    | some a =>
     rw [h1] at h
     simp only [List.mem_singleton] at h
     subst h
     exact ⟨i,by omega,rfl,h1⟩
  ·rintro ⟨e,h1,h2,h3⟩
   by_cases e1 : e = i
   ·subst e1
    right
    rw [h3]
    simp only [List.mem_singleton]
    exact Prod.ext h2 rfl
   ·exact .inl ⟨e,by omega,h2,h3⟩
theorem plAt_nodup (s : List Ty) (v : Nat) : ∀ i,((plAt s i v).map Prod.fst).Nodup
 | 0 => by simp [plAt]
 | i + 1 => by
  rw [plAt,List.map_append,List.nodup_append]
  refine ⟨plAt_nodup s v i,?_,?_⟩
  ·unfold plOf;cases vars s i v <;> simp
  ·intro a ha b hb
   obtain ⟨x,hx,rfl⟩:=List.mem_map.1 ha
   obtain ⟨e,h1,h2,_⟩:=plAt_mem.1 hx
   unfold plOf at hb
   cases h3 : vars s i v with
   | none => rw [h3] at hb;simp at hb
   | some c =>
    rw [h3] at hb
    simp only [List.map_cons,List.map_nil,List.mem_singleton] at hb
    omega
theorem plAt_fst {s : List Ty} {v e i : Nat} (he : e < i) : ((e : Int) ∈ (plAt s i v).map Prod.fst) ↔ (vars s e v).isSome = true:=by
 rw [List.mem_map]
 constructor
 ·rintro ⟨x,hx,h1⟩
  obtain ⟨e',h2,h3,h4⟩:=plAt_mem.1 hx
  obtain rfl : e' = e:=by omega
  rw [h4];rfl
 ·intro h
  obtain ⟨a,ha⟩:=Option.isSome_iff_exists.1 h
  exact ⟨((e : Int),a),plAt_mem.2 ⟨e,he,rfl,ha⟩,rfl⟩
theorem relax_ok (n : Nat) (hn : n ≤ 1000) (v : Nat) (hv : v < n) (M : Int) (hM : M ≤ 1000000000) : ∀ (L : List (Int × Int)) (d : Dst),(∀ x ∈ L,∃ e : Nat,x.1 = e ∧ e < n ∧ 0 ≤ x.2 ∧ x.2 ≤ 200000 ∧ 0 ≤ nth d.mi e ∧ nth d.mi e ≤ 1000000) → (L.map Prod.fst).Nodup → (v : Int) ∉ L.map Prod.fst →
  d.de.length = n → d.mi.length = n → d.dn.length + L.length ≤ 900000 → (∀ e : Nat,e < n → 0 ≤ nth d.de e ∧ nth d.de e ≤ M + 200000) → nth d.de v ≤ M →
  ∃ d',relax n v L d = some d' ∧ d'.de.length = n ∧ d'.mi.length = n ∧ (∀ e : Nat,e < n → 0 ≤ nth d'.de e ∧ nth d'.de e ≤ M + 200000) ∧ (∀ e : Nat,e < n → nth d'.mi e = nth d.mi e - (if (e : Int) ∈ L.map Prod.fst then 1 else 0)) ∧ d'.dn = d.dn ++ (L.map Prod.fst).filter (fun e => nth d.mi e == 1)
 | [],d,_,_,_,h1,h2,_,h3,_ => ⟨d,rfl,h1,h2,h3,fun e he => by simp,by simp⟩
 | x :: L,d,hx,hnd,hvn,h1,h2,h3,h4,h5 => by
  obtain ⟨e,he,hen,a0,a1,m0,m1⟩:=hx x (by simp)
  rw [List.map_cons,List.nodup_cons] at hnd
  rw [List.map_cons,List.mem_cons,not_or] at hvn
  have hde:=h4 e hen
  have hdv:=h4 v hv
  have hok : relaxOk n v x d = true:=by
   unfold relaxOk inR
   rw [he]
   simp only [List.length_cons] at h3
   simp only [Bool.and_eq_true,decide_eq_true_eq]
   exact ⟨⟨⟨⟨⟨by omega,by omega⟩,by omega⟩,by omega⟩,⟨⟨⟨⟨by omega,by omega⟩,by omega,by omega⟩,by omega,by omega⟩,by omega,by omega⟩⟩,⟨h1,h2⟩,by omega⟩
  have hset : ∀ (l : List Int) (y : Int) (j : Nat),l.length = n → nth (l.set x.1.toNat y) (j : Int) = if j = e then y else nth l j:=fun l y j hl => by
   rw [he,Int.toNat_natCast]
   exact nth_set (by omega) j
  have hve : v ≠ e:=fun h => hvn.1 (by rw [he,h])
  obtain ⟨d',r1,r2,r3,r4,r5,r6⟩:=relax_ok n hn v hv M hM L (relax1 v x d) (fun y hy => by
    obtain ⟨e',b0,b1,b2,b3,b4,b5⟩:=hx y (by simp [hy])
    refine ⟨e',b0,b1,b2,b3,?_⟩
    have hne : e' ≠ e:=fun h => hnd.1 (by rw [he,← h,← b0];exact List.mem_map.2 ⟨y,hy,rfl⟩)
    unfold relax1
    simp only
    rw [hset _ _ _ h2,if_neg hne]
    exact ⟨b4,b5⟩) hnd.2 hvn.2 (by unfold relax1;simp [h1]) (by unfold relax1;simp [h2]) (by
    unfold relax1
    simp only [List.length_cons] at h3 ⊢
    split
    ·rw [List.length_append,List.length_singleton];omega
    ·omega) (fun e' he' => by
    unfold relax1
    simp only
    rw [hset _ _ _ h1]
    have:=h4 e' he'
    split
    ·rw [he];omega
    ·exact this) (by
    unfold relax1
    simp only
    rw [hset _ _ _ h1,if_neg hve]
    exact h5)
  refine ⟨d',by rw [relax,if_pos hok];exact r1,r2,r3,r4,fun e' he' => ?_,?_⟩
  ·rw [r5 e' he']
   unfold relax1
   simp only
   rw [hset _ _ _ h2,List.map_cons]
   by_cases h6 : e' = e
   ·rw [if_pos h6,if_neg (by rw [h6,← he];exact hnd.1),if_pos (by rw [he,h6];simp),he]
    rw [h6];omega
   ·rw [if_neg h6]
    have h7 : ((e' : Int) ∈ x.1 :: L.map Prod.fst) ↔ (e' : Int) ∈ L.map Prod.fst:=by
     rw [List.mem_cons,he]
     constructor
     ·rintro (h | h)
      ·omega
      ·exact h
     ·exact .inr
    simp only [h7]
  ·rw [r6,List.map_cons,List.filter_cons]
   have hfil : (L.map Prod.fst).filter (fun e => nth (relax1 v x d).mi e == 1) = (L.map Prod.fst).filter (fun e => nth d.mi e == 1):=by
    refine List.filter_congr fun y hy => ?_
    obtain ⟨z,hz,rfl⟩:=List.mem_map.1 hy
    obtain ⟨e',b0,b1,_⟩:=hx z (by simp [hz])
    have hne : e' ≠ e:=fun h => hnd.1 (by rw [he,← h,← b0];exact hy)
    unfold relax1
    simp only
    rw [b0,hset _ _ _ h2,if_neg hne]
   rw [hfil]
   unfold relax1
   simp only
   by_cases h6 : nth d.mi x.1 = 1
   ·rw [if_pos (by omega),if_pos (by simp [h6])]
    simp
   ·rw [if_neg (by omega),if_neg (by simpa using h6)]
def left (s : List Ty) (P : List Int) (e : Nat) : Nat:=((List.range s.length).filter fun (v : Nat) => (vars s e (v : Int)).isSome && !(P.contains (v : Int))).length
theorem filter_drop {α : Type} [DecidableEq α] (p q : α → Bool) (x : α) : ∀ (l : List α),l.Nodup → x ∈ l → (∀ y,y ≠ x → p y = q y) → q x = false → ((l.filter p).length = (l.filter q).length + (if p x = true then 1 else 0))
 | [],_,h,_,_ => by cases h
 | a :: l,hn,h,hpq,hq => by
  rw [List.nodup_cons] at hn
  by_cases e : a = x
  ·subst e
   have : l.filter p = l.filter q:=List.filter_congr fun y hy => hpq y (fun h => hn.1 (h ▸ hy))
   rw [List.filter_cons,List.filter_cons,this]
   simp only [hq]
   cases p a <;> simp
  ·have hx : x ∈ l:=by
    rcases List.mem_cons.1 h with h | h
    ·exact absurd h.symm e
    ·exact h
   have ih:=filter_drop p q x l hn.2 hx hpq hq
   rw [List.filter_cons,List.filter_cons,hpq a e]
   split
   ·simp only [List.length_cons];omega
   ·exact ih
theorem left_snoc {s : List Ty} {P : List Int} {v : Nat} (hv : v < s.length) (hP : (v : Int) ∉ P) (e : Nat) : left s P e = left s (P ++ [(v : Int)]) e + (if (vars s e v).isSome = true then 1 else 0):=by
 unfold left
 have:=filter_drop (fun (u : Nat) => (vars s e (u : Int)).isSome && !(P.contains (u : Int))) (fun (u : Nat) => (vars s e (u : Int)).isSome && !((P ++ [(v : Int)]).contains (u : Int))) v (List.range s.length) List.nodup_range (List.mem_range.2 hv) (fun y hy => by
  have : ¬ ((y : Int) = (v : Int)):=by omega
  simp [this]) (by simp)
 rw [this]
 have h1 : P.contains (v : Int) = false:=by simpa using hP
 simp [h1,hP]
theorem left_zero {s : List Ty} {P : List Int} {e v : Nat} (h : left s P e = 0) (hv : v < s.length) (hs : (vars s e v).isSome = true) : (v : Int) ∈ P:=by
 unfold left at h
 have h1:=List.eq_nil_of_length_eq_zero h
 rw [List.filter_eq_nil_iff] at h1
 have:=h1 v (List.mem_range.2 hv)
 simpa [hs] using this
theorem left_pos {s : List Ty} {P : List Int} {e : Nat} (h : left s P e ≠ 0) : ∃ v,v < s.length ∧ (vars s e v).isSome = true ∧ (v : Int) ∉ P:=by
 unfold left at h
 obtain ⟨v,hv⟩:=List.exists_mem_of_length_pos (Nat.pos_of_ne_zero h)
 obtain ⟨h1,h2⟩:=List.mem_filter.1 hv
 refine ⟨v,List.mem_range.1 h1,?_⟩
 simpa using h2
theorem nodup_range_len {n : Nat} {l : List Int} (hn : l.Nodup) (hr : ∀ x ∈ l,0 ≤ x ∧ x < n) : l.length = ((List.range n).filter fun (v : Nat) => l.contains (v : Int)).length:=by
 have hmem : ∀ i : Int,i ∈ l ↔ i ∈ ((List.range n).filter fun (v : Nat) => l.contains (v : Int)).map (fun v : Nat => (v : Int)):=by
  intro i
  constructor
  ·intro hi
   obtain ⟨a,b⟩:=hr i hi
   refine List.mem_map.2 ⟨i.toNat,List.mem_filter.2 ⟨List.mem_range.2 (by omega),?_⟩,by omega⟩
   rw [show ((i.toNat : Nat) : Int) = i by omega]
   simpa using hi
  ·intro hi
   obtain ⟨v,hv,rfl⟩:=List.mem_map.1 hi
   obtain ⟨_,b⟩:=List.mem_filter.1 hv
   simpa using b
 have hnd : (((List.range n).filter fun (v : Nat) => l.contains (v : Int)).map (fun v : Nat => (v : Int))).Nodup:=by
  unfold List.Nodup
  rw [List.pairwise_map]
  exact ((List.nodup_range).filter _).imp (fun h e => h (by omega))
 have h1:=((List.perm_ext_iff_of_nodup hn hnd).2 (fun i => hmem i)).length_eq
 rw [h1,List.length_map]
theorem nodup_le {n : Nat} {l : List Int} (hn : l.Nodup) (hr : ∀ x ∈ l,0 ≤ x ∧ x < n) : l.length ≤ n:=by
 rw [nodup_range_len hn hr]
 have:=List.length_filter_le (fun (v : Nat) => l.contains (v : Int)) (List.range n)
 simpa using this
theorem nodup_full {n : Nat} {l : List Int} (hn : l.Nodup) (hr : ∀ x ∈ l,0 ≤ x ∧ x < n) : l.length = n ↔ ∀ v : Nat,v < n → (v : Int) ∈ l:=by
 rw [nodup_range_len hn hr]
 have h:=@List.length_filter_eq_length_iff _ (fun (v : Nat) => l.contains (v : Int)) (List.range n)
 rw [List.length_range] at h
 rw [h]
 simp [List.mem_range]
structure Kahn (s : List Ty) (next : Nat) (d : Dst) : Prop where
 de : d.de.length = s.length
 mi : d.mi.length = s.length
 nd : d.dn.Nodup
 rg : ∀ x ∈ d.dn,0 ≤ x ∧ x < s.length
 le : next ≤ d.dn.length
 ct : ∀ e : Nat,e < s.length → nth d.mi e = left s (d.dn.take next) e
 dn : ∀ e : Nat,e < s.length → ((e : Int) ∈ d.dn ↔ nth d.mi e = 0)
 or : ∀ (i e : Nat),d.dn[i]? = some (e : Int) → ∀ v : Nat,v < s.length → (vars s e v).isSome = true → (v : Int) ∈ d.dn.take i
 bd : ∀ e : Nat,e < s.length → 0 ≤ nth d.de e ∧ nth d.de e ≤ (next + 1) * 200000
theorem Kahn.step {s : List Ty} {next : Nat} {d : Dst} (h : Kahn s next d) (hl : s.length ≤ 1000) (hs : ∀ t ∈ s,size t ≤ 90000) {v : Int} (hv : d.dn[next]? = some v) :
  ∃ d',relax s.length v (plAt s s.length v.toNat) d = some d' ∧ Kahn s (next + 1) d':=by
 have hvm:=h.rg v (List.mem_of_getElem? hv)
 obtain ⟨u,rfl⟩ : ∃ u : Nat,v = u:=⟨v.toNat,by omega⟩
 have hu : u < s.length:=by omega
 rw [Int.toNat_natCast]
 have hlt : next < d.dn.length:=(List.getElem?_eq_some_iff.1 hv).1
 have hdl:=nodup_le h.nd h.rg
 have hun : (u : Int) ∉ d.dn.take next:=fun hm => by
  obtain ⟨i,hi⟩:=List.mem_iff_getElem?.1 hm
  rw [List.getElem?_take] at hi
  split at hi
  ·have:=(List.getElem?_inj (i:=i) (j:=next) (by omega) h.nd).1 (by rw [hi,hv])
   omega
  ·cases hi
 have hself : (u : Int) ∉ (plAt s s.length u).map Prod.fst:=fun hm => by
  rw [plAt_fst hu] at hm
  exact hun (h.or next u hv u hu hm)
 have htk : d.dn.take (next + 1) = d.dn.take next ++ [(u : Int)]:=by
  rw [List.take_add_one,hv];rfl
 have hcnt : ∀ e : Nat,e < s.length → left s (d.dn.take next) e = left s (d.dn.take (next + 1)) e + (if (vars s e u).isSome = true then 1 else 0):=fun e he => by
  rw [htk];exact left_snoc hu hun e
 have hleft : ∀ P e,left s P e ≤ s.length:=fun P e => by
  have:=List.length_filter_le (fun (v : Nat) => (vars s e (v : Int)).isSome && !(P.contains (v : Int))) (List.range s.length)
  rw [List.length_range] at this
  exact this
 have hpl : (plAt s s.length u).length ≤ s.length:=by
  have h1:=nodup_le (n:=s.length) (plAt_nodup s u s.length) (fun x hx => by
   obtain ⟨y,hy,rfl⟩:=List.mem_map.1 hx
   obtain ⟨e,h1,h2,_⟩:=plAt_mem.1 hy
   omega)
  simpa using h1
 obtain ⟨d',r1,r2,r3,r4,r5,r6⟩:=relax_ok s.length hl u hu ((next + 1) * 200000) (by
   have : (next : Int) ≤ 1000:=by omega
   omega) (plAt s s.length u) d (fun x hx => by
  obtain ⟨e,h1,h2,h3⟩:=plAt_mem.1 hx
  have h4:=vars_bd hs e u x.2 h3
  have h5:=h.ct e h1
  have h6:=hleft (d.dn.take next) e
  exact ⟨e,h2,h1,h4.1,h4.2,by omega,by omega⟩) (plAt_nodup s u s.length) hself h.de h.mi (by omega) (fun e he => by have:=h.bd e he;omega) (h.bd u hu).2
 have hnew : ∀ e : Nat,e < s.length → ((e : Int) ∈ ((plAt s s.length u).map Prod.fst).filter (fun e => nth d.mi e == 1) ↔ (vars s e u).isSome = true ∧ nth d.mi e = 1):=fun e he => by
  rw [List.mem_filter,plAt_fst he];simp
 have hnewr : ∀ x ∈ ((plAt s s.length u).map Prod.fst).filter (fun e => nth d.mi e == 1),∃ e : Nat,x = e ∧ e < s.length:=fun x hx => by
  obtain ⟨y,hy,rfl⟩:=List.mem_map.1 (List.mem_filter.1 hx).1
  obtain ⟨e,h1,h2,_⟩:=plAt_mem.1 hy
  exact ⟨e,h2,h1⟩
 have hdt : d'.dn.take (next + 1) = d.dn.take (next + 1):=by
  rw [r6,List.take_append_of_le_length (by omega)]
 have hct : ∀ e : Nat,e < s.length → nth d'.mi e = left s (d'.dn.take (next + 1)) e:=fun e he => by
  have h1:=hcnt e he
  rw [r5 e he,hdt,h.ct e he,h1]
  by_cases h2 : (vars s e u).isSome = true
  ·rw [if_pos h2,if_pos ((plAt_fst he).2 h2)];omega
  ·rw [if_neg h2,if_neg (fun hm => h2 ((plAt_fst he).1 hm))];omega
 refine ⟨d',r1,⟨r2,r3,?_,?_,?_,hct,?_,?_,?_⟩⟩
 ·rw [r6,List.nodup_append]
  refine ⟨h.nd,(plAt_nodup s u s.length).filter _,fun a ha b hb e => ?_⟩
  obtain ⟨e',rfl,he'⟩:=hnewr b hb
  have h1:=((hnew e' he').1 hb).2
  rw [e] at ha
  have:=(h.dn e' he').1 ha
  omega
 ·intro x hx
  rw [r6] at hx
  rcases List.mem_append.1 hx with hx | hx
  ·exact h.rg x hx
  ·obtain ⟨e,rfl,he⟩:=hnewr x hx;omega
 ·rw [r6,List.length_append];omega
 ·intro e he
  rw [r6,List.mem_append,hnew e he,h.dn e he,r5 e he]
  have h1:=hcnt e he
  have h2:=h.ct e he
  by_cases h3 : (vars s e u).isSome = true
  ·rw [if_pos h3] at h1
   rw [if_pos ((plAt_fst he).2 h3)]
   constructor
   ·rintro (h4 | ⟨_,h4⟩) <;> omega
   ·intro h4;right;exact ⟨h3,by omega⟩
  ·rw [if_neg (fun hm => h3 ((plAt_fst he).1 hm))]
   constructor
   ·rintro (h4 | ⟨h4,_⟩)
    ·omega
    ·exact absurd h4 h3
   ·intro h4;left;omega
 ·intro i e hi v' hv' hsm
  rw [r6] at hi ⊢
  by_cases h1 : i < d.dn.length
  ·rw [List.getElem?_append_left h1] at hi
   rw [List.take_append_of_le_length (by omega)]
   exact h.or i e hi v' hv' hsm
  ·have he:=hnewr (e : Int) (by
    rw [List.getElem?_append_right (by omega)] at hi
    exact List.mem_of_getElem? hi)
   obtain ⟨e',h2,h3⟩:=he
   obtain rfl : e' = e:=by omega
   have hm : (e' : Int) ∈ d'.dn:=by rw [r6];exact List.mem_of_getElem? hi
   have hz : nth d'.mi e' = 0:=by
    rw [r6,List.getElem?_append_right (by omega)] at *
    have h4:=(hnew e' h3).1 (List.mem_of_getElem? hi)
    rw [r5 e' h3,if_pos ((plAt_fst h3).2 h4.1),h4.2];omega
   have h5:=hct e' h3
   rw [hz] at h5
   have h6:=left_zero (P:=d'.dn.take (next + 1)) (e:=e') (by omega) hv' hsm
   rw [r6] at h6
   have hle : next + 1 ≤ i:=by omega
   have : ((d.dn ++ ((plAt s s.length u).map Prod.fst).filter (fun e => nth d.mi e == 1)).take (next + 1)) = ((d.dn ++ ((plAt s s.length u).map Prod.fst).filter (fun e => nth d.mi e == 1)).take i).take (next + 1):=by
    rw [List.take_take,Nat.min_eq_left hle]
   rw [this] at h6
   exact List.mem_of_mem_take h6
 ·intro e he
  have:=r4 e he
  omega
theorem doneAt_mem {s : List Ty} : ∀ {i : Nat} {x : Int},x ∈ doneAt s i ↔ ∃ e : Nat,x = e ∧ e < i ∧ cnt s e = 0
 | 0,x => by simp [doneAt]
 | i + 1,x => by
  rw [doneAt]
  split
  ·rename_i h
   rw [List.mem_append,doneAt_mem,List.mem_singleton]
   constructor
   ·rintro (⟨e,h1,h2,h3⟩ | h1)
    ·exact ⟨e,h1,by omega,h3⟩
    ·exact ⟨i,h1,by omega,h⟩
   ·rintro ⟨e,h1,h2,h3⟩
    by_cases h4 : e = i
    ·right;omega
    ·exact .inl ⟨e,h1,by omega,h3⟩
  ·rename_i h
   rw [doneAt_mem]
   constructor
   ·rintro ⟨e,h1,h2,h3⟩;exact ⟨e,h1,by omega,h3⟩
   ·rintro ⟨e,h1,h2,h3⟩
    exact ⟨e,h1,by rcases Nat.lt_or_ge e i with h4 | h4;exact h4;exact absurd ((show e = i by omega) ▸ h3) h,h3⟩
theorem doneAt_nodup (s : List Ty) : ∀ i,(doneAt s i).Nodup
 | 0 => by simp [doneAt]
 | i + 1 => by
  rw [doneAt]
  split
  ·rw [List.nodup_append]
   refine ⟨doneAt_nodup s i,by simp,fun a ha b hb => ?_⟩
   obtain ⟨e,rfl,h1,_⟩:=doneAt_mem.1 ha
   rw [List.mem_singleton] at hb
   omega
  ·exact doneAt_nodup s i
theorem Kahn.start (s : List Ty) (hs : ∀ t ∈ s,size t ≤ 90000) : Kahn s 0 ⟨depAt s s.length,misAt s s.length,doneAt s s.length⟩:=by
 have hm : ∀ e : Nat,e < s.length → nth (misAt s s.length) e = cnt s e:=fun e he => by
  unfold nth misAt
  simp [he]
 have hc : ∀ e,left s [] e = cnt s e:=fun e => by unfold left cnt;simp
 refine ⟨by simp [depAt],by simp [misAt],doneAt_nodup s _,?_,Nat.zero_le _,?_,?_,?_,?_⟩
 ·intro x hx
  obtain ⟨e,rfl,h1,_⟩:=doneAt_mem.1 hx
  omega
 ·intro e he
  simp only [List.take_zero]
  rw [hm e he,hc]
 ·intro e he
  rw [hm e he]
  rw [doneAt_mem]
  constructor
  ·rintro ⟨e',h1,_,h2⟩
   obtain rfl : e' = e:=by omega
   omega
  ·intro h;exact ⟨e,rfl,he,by omega⟩
 ·intro i e hi v hv hsm
  obtain ⟨e',h1,_,h2⟩:=doneAt_mem.1 (List.mem_of_getElem? hi)
  obtain rfl : e' = e:=by omega
  rw [← hc] at h2
  exact absurd (left_zero h2 hv hsm) (by simp)
 ·intro e he
  unfold nth depAt
  simp only [Int.toNat_natCast,List.getElem?_map,List.getElem?_range he,Option.map_some,Option.getD_some,if_pos he]
  unfold depE
  rw [List.getElem?_eq_getElem he]
  simp only
  have h1:=depth_size s[e]
  have h2:=hs _ (List.getElem_mem he)
  omega
theorem Kahn.spread {s : List Ty} (hl : s.length ≤ 1000) (hs : ∀ t ∈ s,size t ≤ 90000) : ∀ (f next : Nat) (d : Dst),Kahn s next d → s.length + 1 ≤ f + next →
  ∃ d',Un.spread s.length (plAt s s.length) f next d = some d' ∧ Kahn s d'.dn.length d'
 | 0,next,d,h,hf => by
  have h1:=nodup_le h.nd h.rg
  have:=h.le
  omega
 | f + 1,next,d,h,hf => by
  have h1:=nodup_le h.nd h.rg
  rw [Un.spread]
  cases hv : d.dn[next]? with
  | none =>
   simp only
   rw [if_pos (by omega)]
   have h2 : next = d.dn.length:=by
    have:=h.le
    rw [List.getElem?_eq_none_iff] at hv
    omega
   rw [h2] at h
   exact ⟨d,rfl,h⟩
  | some v =>
   simp only
   have h3:=h.rg v (List.mem_of_getElem? hv)
   rw [if_pos ⟨h3.1,h3.2,by omega⟩]
   obtain ⟨d1,r1,r2⟩:=h.step hl hs hv
   obtain ⟨d2,r3,r4⟩:=Kahn.spread hl hs f (next + 1) d1 r2 (by omega)
   exact ⟨d2,by rw [r1];exact r3,r4⟩
def Ranked (s : List Ty) : Prop:=∃ rk : Nat → Nat,∀ e v : Nat,e < s.length → v < s.length → (vars s e v).isSome = true → rk v < rk e
theorem depthsOf_total (s : List Ty) (hl : s.length ≤ 1000) (hs : ∀ t ∈ s,size t ≤ 90000) : ∃ r,depthsOf s = some r ∧ (r.2 = true ↔ Ranked s):=by
 obtain ⟨d,h1,h⟩:=Kahn.spread hl hs (s.length + 1) 0 _ (Kahn.start s hs) (by omega)
 refine ⟨(d.de,d.dn.length == s.length),by unfold depthsOf;rw [h1];rfl,?_⟩
 simp only [beq_iff_eq]
 rw [nodup_full h.nd h.rg]
 constructor
 ·intro hall
  refine ⟨fun v => d.dn.idxOf (v : Int),fun e v he hv hsm => ?_⟩
  have hm:=hall e he
  have hi:=List.idxOf_lt_length_of_mem hm
  have hg : d.dn[d.dn.idxOf (e : Int)]? = some (e : Int):=by
   rw [List.getElem?_eq_getElem hi,List.getElem_idxOf hi]
  have h2:=h.or _ e hg v hv hsm
  obtain ⟨j,hj⟩:=List.mem_iff_getElem?.1 h2
  rw [List.getElem?_take] at hj
  split at hj
  ·rename_i hjl
   have h3:=(List.getElem?_eq_some_iff.1 hj).1
   have hvm:=hall v hv
   have hvi:=List.idxOf_lt_length_of_mem hvm
   have hvg : d.dn[d.dn.idxOf (v : Int)]? = some (v : Int):=by
    rw [List.getElem?_eq_getElem hvi,List.getElem_idxOf hvi]
   have:=(List.getElem?_inj (i:=j) (j:=d.dn.idxOf (v : Int)) h3 h.nd).1 (by rw [hj,hvg])
   show d.dn.idxOf (v : Int) < d.dn.idxOf (e : Int)
   omega
  ·cases hj
 ·rintro ⟨rk,hrk⟩
  have key : ∀ (m v : Nat),rk v ≤ m → v < s.length → (v : Int) ∈ d.dn:=by
   intro m
   induction m with
   | zero =>
    intro v hm hv
    rw [h.dn v hv,h.ct v hv]
    by_cases h2 : left s (d.dn.take d.dn.length) v = 0
    ·omega
    ·obtain ⟨u,hu,h3,_⟩:=left_pos h2
     have:=hrk v u hv hu h3
     omega
   | succ m ih =>
    intro v hm hv
    rw [h.dn v hv,h.ct v hv]
    by_cases h2 : left s (d.dn.take d.dn.length) v = 0
    ·omega
    ·obtain ⟨u,hu,h3,h4⟩:=left_pos h2
     have h5:=hrk v u hv hu h3
     exact absurd (ih u (by omega) hu) (by rw [List.take_length] at h4;exact h4)
  exact fun v hv => key (rk v) v (Nat.le_refl _) hv
end Un
end Go.Proofs.Ytcdlnhfgehhkcaa
namespace Go.Proofs.Ytcdlnhfgehhkcaa
namespace Un
mutual
def ap (θ : Int → Ty) : Ty → Ty
 | .mk k i al => if k = 9 then θ i else .mk k i (aps θ al)
def aps (θ : Int → Ty) : List Ty → List Ty
 | [] => []
 | a :: r => ap θ a :: aps θ r
end
theorem aps_map (θ : Int → Ty) : ∀ l,aps θ l = l.map (ap θ)
 | [] => by rw [aps];rfl
 | a :: r => by rw [aps,aps_map θ r];rfl
theorem ap_eq (θ : Int → Ty) (t : Ty) : ap θ t = if kd t = 9 then θ (nm t) else .mk (kd t) (nm t) ((ar t).map (ap θ)):=by cases t;rw [ap,aps_map];rfl
theorem ap_var (θ : Int → Ty) (i : Int) : ap θ (var i) = θ i:=by rw [ap_eq];rfl
theorem ap_head {θ : Int → Ty} {a b : Ty} (ha : kd a ≠ 9) (hb : kd b ≠ 9) : ap θ a = ap θ b ↔ kd a = kd b ∧ nm a = nm b ∧ (ar a).map (ap θ) = (ar b).map (ap θ):=by
 rw [ap_eq θ a,ap_eq θ b,if_neg ha,if_neg hb]
 simp only [Ty.mk.injEq]
def core (ts : List Tm) : List (Ty × List Int):=ts.map fun a => (a.t,a.args)
theorem core_len {ts ts' : List Tm} (h : core ts' = core ts) : ts'.length = ts.length:=by
 have:=congrArg List.length h
 simpa [core] using this
theorem core_get {ts ts' : List Tm} (h : core ts' = core ts) {i : Nat} {a : Tm} (ha : ts[i]? = some a) : ∃ a',ts'[i]? = some a' ∧ a'.t = a.t ∧ a'.args = a.args:=by
 have h1 : (core ts')[i]? = (core ts)[i]?:=by rw [h]
 unfold core at h1
 rw [List.getElem?_map,List.getElem?_map,ha] at h1
 cases h2 : ts'[i]? with
 | none => rw [h2] at h1;cases h1
 | some a' =>
  rw [h2] at h1
  simp only [Option.map_some,Option.some.injEq,Prod.mk.injEq] at h1
  exact ⟨a',rfl,h1.1,h1.2⟩
theorem tm_get {ts : List Tm} {i : Int} {a : Tm} (h : tm? ts i = some a) : 0 ≤ i ∧ i.toNat < ts.length ∧ ts[i.toNat]? = some a:=by
 unfold tm? at h
 split at h
 ·exact ⟨by assumption,(List.getElem?_eq_some_iff.1 h).1,h⟩
 ·cases h
theorem tm_of {ts : List Tm} {i : Int} {a : Tm} (h0 : 0 ≤ i) (h : ts[i.toNat]? = some a) : tm? ts i = some a:=by unfold tm?;rw [if_pos h0];exact h
theorem tm_nat {ts : List Tm} {i : Nat} {a : Tm} (h : ts[i]? = some a) : tm? ts (i : Int) = some a:=tm_of (by omega) (by simpa using h)
theorem tm_core {ts ts' : List Tm} (h : core ts' = core ts) {i : Int} {a : Tm} (ha : tm? ts i = some a) : ∃ a',tm? ts' i = some a' ∧ a'.t = a.t ∧ a'.args = a.args:=by
 obtain ⟨h0,_,h1⟩:=tm_get ha
 obtain ⟨a',h2,h3⟩:=core_get h h1
 exact ⟨a',tm_of h0 h2,h3⟩
theorem setNext_get {ts : List Tm} {i : Nat} {x : Int} (j : Nat) : (setNext ts i x)[j]? = if j = i then (ts[i]?).map (fun a => { a with next:=x }) else ts[j]?:=by
 unfold setNext
 cases h : ts[i]? with
 | none =>
  simp only
  by_cases e : j = i
  ·subst e;rw [if_pos rfl,h];rfl
  ·rw [if_neg e]
 | some a =>
  simp only
  have hi:=(List.getElem?_eq_some_iff.1 h).1
  by_cases e : j = i
  ·subst e;rw [if_pos rfl,List.getElem?_set_self hi];rfl
  ·rw [if_neg e,List.getElem?_set_ne (by omega)]
theorem setNext_core (ts : List Tm) (i : Nat) (x : Int) : core (setNext ts i x) = core ts:=by
 refine List.ext_getElem? fun j => ?_
 unfold core
 rw [List.getElem?_map,List.getElem?_map,setNext_get]
 by_cases e : j = i
 ·subst e;rw [if_pos rfl];cases ts[j]? <;> rfl
 ·rw [if_neg e]
structure St (n : Nat) (ts : List Tm) : Prop where
 le : n ≤ ts.length
 vr : ∀ (i : Nat) (a : Tm),i < n → ts[i]? = some a → a.t = var i
 nv : ∀ (i : Nat) (a : Tm),n ≤ i → ts[i]? = some a → kd a.t ≠ 9 ∧ a.args.length = (ar a.t).length ∧ ∀ (m : Nat) (x : Int) (u : Ty),a.args[m]? = some x → (ar a.t)[m]? = some u → ∃ c,tm? ts x = some c ∧ c.t = u
theorem St.of_core {n : Nat} {ts ts' : List Tm} (h : St n ts) (hc : core ts' = core ts) : St n ts':=by
 refine ⟨by rw [core_len hc];exact h.le,fun i a hi ha => ?_,fun i a hi ha => ?_⟩
 ·obtain ⟨b,h1,h2,_⟩:=core_get hc.symm ha
  rw [← h2];exact h.vr i b hi h1
 ·obtain ⟨b,h1,h2,h3⟩:=core_get hc.symm ha
  obtain ⟨k1,k2,k3⟩:=h.nv i b hi h1
  rw [← h2,← h3]
  refine ⟨k1,k2,fun m x u hx hu => ?_⟩
  obtain ⟨c,h4,h5⟩:=k3 m x u hx hu
  obtain ⟨c',h6,h7,_⟩:=tm_core hc h4
  exact ⟨c',h6,h7.trans h5⟩
structure Fo (n : Nat) (rk : Nat → Nat) (ts : List Tm) : Prop where
 rg : ∀ (i : Nat) (a : Tm),ts[i]? = some a → 0 ≤ a.next ∧ a.next < ts.length
 rk : ∀ (i : Nat) (a : Tm),ts[i]? = some a → a.next = i ∨ rk a.next.toNat < rk i
 up : ∀ (i : Nat) (a : Tm),n ≤ i → ts[i]? = some a → (n : Int) ≤ a.next
def SolN (θ : Int → Ty) (ts : List Tm) : Prop:=∀ (i : Nat) (a c : Tm),ts[i]? = some a → tm? ts a.next = some c → ap θ a.t = ap θ c.t
def SolP (θ : Int → Ty) (ts : List Tm) (ps : List (Int × Int)) : Prop:=∀ (x y : Int) (a b : Tm),(x,y) ∈ ps → tm? ts x = some a → tm? ts y = some b → ap θ a.t = ap θ b.t
theorem SolP.of_core {θ : Int → Ty} {ts ts' : List Tm} {ps : List (Int × Int)} (h : SolP θ ts ps) (hc : core ts' = core ts) : SolP θ ts' ps:=by
 intro x y a b hm ha hb
 obtain ⟨a',h1,h2,_⟩:=tm_core hc.symm ha
 obtain ⟨b',h3,h4,_⟩:=tm_core hc.symm hb
 rw [← h2,← h4]
 exact h x y a' b' hm h1 h3
def isRoot (ts : List Tm) (i : Nat) : Bool:=match ts[i]? with
 | some a => a.next == i
 | none => false
structure SpkR (n : Nat) (rk : Nat → Nat) (ts ts' : List Tm) (i r : Int) : Prop where
 core : core ts' = core ts
 fo : Fo n rk ts'
 root : ∃ a,tm? ts' r = some a ∧ a.next = r
 roots : ∀ j,isRoot ts' j = isRoot ts j
 solN : ∀ θ,SolN θ ts → SolN θ ts'
 sol : ∀ θ,SolN θ ts → ∀ (a b : Tm),tm? ts i = some a → tm? ts r = some b → ap θ a.t = ap θ b.t
 up : (n : Int) ≤ i → (n : Int) ≤ r
 rk : rk r.toNat ≤ rk i.toNat
theorem Fo.halve {n : Nat} {rk : Nat → Nat} {ts : List Tm} (h : Fo n rk ts) {i : Nat} {a c : Tm} (ha : ts[i]? = some a) (hc : tm? ts a.next = some c) (hne : a.next ≠ i) :
  Fo n rk (setNext ts i c.next) ∧ (∀ j,isRoot (setNext ts i c.next) j = isRoot ts j) ∧ (∀ θ,SolN θ ts → SolN θ (setNext ts i c.next)) ∧ rk c.next.toNat < rk i ∧ 0 ≤ c.next ∧ c.next < ts.length:=by
 obtain ⟨h0,h1,hc'⟩:=tm_get hc
 have hcg:=h.rg _ _ hc'
 have hrk : rk c.next.toNat < rk i:=by
  have h2:=h.rk i a ha
  have h3:=h.rk _ _ hc'
  rcases h2 with h2 | h2
  ·exact absurd h2 hne
  ·rcases h3 with h3 | h3
   ·rw [h3,Int.toNat_natCast];exact h2
   ·omega
 have hci : c.next ≠ (i : Int):=fun e => by rw [e,Int.toNat_natCast] at hrk;omega
 have hget : ∀ j b,(setNext ts i c.next)[j]? = some b → (j = i ∧ b = { a with next:=c.next }) ∨ (j ≠ i ∧ ts[j]? = some b):=fun j b hb => by
  rw [setNext_get] at hb
  by_cases e : j = i
  ·rw [if_pos e,ha] at hb
   simp only [Option.map_some,Option.some.injEq] at hb
   exact .inl ⟨e,hb.symm⟩
  ·rw [if_neg e] at hb
   exact .inr ⟨e,hb⟩
 refine ⟨⟨fun j b hb => ?_,fun j b hb => ?_,fun j b hj hb => ?_⟩,fun j => ?_,fun θ hs j b d hb hd => ?_,hrk,hcg.1,hcg.2⟩
 ·rw [setNext_len]
  rcases hget j b hb with ⟨_,rfl⟩ | ⟨_,hb⟩
  ·exact hcg
  ·exact h.rg j b hb
 ·rcases hget j b hb with ⟨rfl,rfl⟩ | ⟨_,hb⟩
  ·exact .inr hrk
  ·exact h.rk j b hb
 ·rcases hget j b hb with ⟨rfl,rfl⟩ | ⟨_,hb⟩
  ·have h2:=h.up _ a hj ha
   exact h.up _ c (by omega) hc'
  ·exact h.up j b hj hb
 ·unfold isRoot
  rw [setNext_get]
  by_cases e : j = i
  ·subst e
   rw [if_pos rfl,ha]
   simp only [Option.map_some]
   rw [show (c.next == (j : Int)) = false by simpa using hci,show (a.next == (j : Int)) = false by simpa using hne]
  ·rw [if_neg e]
 ·have hd2 : ∃ d',tm? ts b.next = some d' ∧ d'.t = d.t:=by
   obtain ⟨d',h2,h3,_⟩:=tm_core (setNext_core ts i c.next).symm hd
   exact ⟨d',h2,h3⟩
  obtain ⟨d',h2,h3⟩:=hd2
  rw [← h3]
  rcases hget j b hb with ⟨rfl,rfl⟩ | ⟨_,hb⟩
  ·simp only at h2 ⊢
   rw [hs _ a c ha hc,hs _ c d' hc' h2]
  ·exact hs j b d' hb h2
theorem speaker_total {n : Nat} {rk : Nat → Nat} : ∀ (f : Nat) (ts : List Tm) (i : Int),Fo n rk ts → 0 ≤ i → i < ts.length → rk i.toNat < f → ∃ ts' r,speaker f ts i = some (ts',r) ∧ SpkR n rk ts ts' i r
 | 0,_,_,_,_,_,hf => by omega
 | f + 1,ts,i,h,h0,hi,hf => by
  obtain ⟨k,rfl⟩ : ∃ k : Nat,i = k:=⟨i.toNat,by omega⟩
  rw [Int.toNat_natCast] at hf
  obtain ⟨a,ha⟩ : ∃ a,ts[k]? = some a:=⟨_,List.getElem?_eq_getElem (by omega)⟩
  rw [speaker,tm_nat ha]
  simp only
  by_cases e : a.next = k
  ·rw [if_pos e]
   exact ⟨ts,k,rfl,rfl,h,⟨a,tm_nat ha,e⟩,fun _ => rfl,fun _ h => h,fun θ _ x y hx hy => by rw [hx] at hy;cases hy;rfl,fun h => h,Nat.le_refl _⟩
  ·rw [if_neg e]
   have hg:=h.rg k a ha
   obtain ⟨c,hc⟩ : ∃ c,tm? ts a.next = some c:=⟨_,tm_of hg.1 (List.getElem?_eq_getElem (by omega))⟩
   rw [hc]
   simp only [Int.toNat_natCast]
   obtain ⟨h1,h2,h3,h4,h5,h6⟩:=h.halve ha hc e
   obtain ⟨ts',r,r1,r2⟩:=speaker_total f _ c.next h1 h5 (by rw [setNext_len];exact h6) (by omega)
   refine ⟨ts',r,r1,r2.core.trans (setNext_core _ _ _),r2.fo,r2.root,fun j => (r2.roots j).trans (h2 j),fun θ hs => r2.solN θ (h3 θ hs),fun θ hs x y hx hy => ?_,fun hn => ?_,?_⟩
   ·rw [tm_nat ha] at hx
    cases hx
    obtain ⟨hc0,_,hc'⟩:=tm_get hc
    obtain ⟨d,hd⟩ : ∃ d,tm? ts c.next = some d:=⟨_,tm_of h5 (List.getElem?_eq_getElem (by omega))⟩
    obtain ⟨d',k1,k2,_⟩:=tm_core (setNext_core ts k c.next) hd
    obtain ⟨y',k3,k4,_⟩:=tm_core (setNext_core ts k c.next) hy
    rw [hs k a c ha hc,hs _ c d hc' hd,← k2,← k4]
    exact r2.sol θ (h3 θ hs) d' y' k1 k3
   ·refine r2.up ?_
    obtain ⟨hc0,_,hc'⟩:=tm_get hc
    have:=h.up k a (by omega) ha
    exact h.up _ c (by omega) hc'
   ·rw [Int.toNat_natCast]
    have:=r2.rk
    omega
theorem speaker_mono : ∀ {f g : Nat} {ts : List Tm} {i : Int} {r : List Tm × Int},speaker f ts i = some r → f ≤ g → speaker g ts i = some r
 | 0,_,_,_,_,h,_ => by simp [speaker] at h
 | f + 1,0,_,_,_,_,hg => by omega
 | f + 1,g + 1,ts,i,r,h,hg => by
  rw [speaker] at h ⊢
  cases h1 : tm? ts i with
  | none => simp [h1] at h
  | some a =>
   rw [h1] at h
   simp only at h ⊢
   split at h
   ·rename_i e;rw [if_pos e];exact h
   ·rename_i e
    rw [if_neg e]
    cases h2 : tm? ts a.next with
    | none => simp [h2] at h
    | some c =>
     rw [h2] at h
     simp only at h ⊢
     exact speaker_mono h (by omega)
def roots (ts : List Tm) : Nat:=((List.range ts.length).filter fun i => isRoot ts i).length
theorem roots_same {ts ts' : List Tm} (hl : ts'.length = ts.length) (h : ∀ j,isRoot ts' j = isRoot ts j) : roots ts' = roots ts:=by
 unfold roots
 rw [hl]
 simp only [h]
theorem Fo.link {n : Nat} {rk : Nat → Nat} {ts : List Tm} (h : Fo n rk ts) {x y : Nat} {a b : Tm} (ha : ts[x]? = some a) (hax : a.next = x) (hb : ts[y]? = some b) (hby : b.next = y) (hne : x ≠ y) (hup : n ≤ x → n ≤ y) :
  (∃ rk',Fo n rk' (setNext ts x y)) ∧ roots ts = roots (setNext ts x y) + 1 ∧ (∀ θ,SolN θ ts → ap θ a.t = ap θ b.t → SolN θ (setNext ts x y)):=by
 have hget : ∀ j e,(setNext ts x y)[j]? = some e → (j = x ∧ e = { a with next:=(y : Int) }) ∨ (j ≠ x ∧ ts[j]? = some e):=fun j e he => by
  rw [setNext_get] at he
  by_cases hj : j = x
  ·rw [if_pos hj,ha] at he
   simp only [Option.map_some,Option.some.injEq] at he
   exact .inl ⟨hj,he.symm⟩
  ·rw [if_neg hj] at he
   exact .inr ⟨hj,he⟩
 have hxl:=(List.getElem?_eq_some_iff.1 ha).1
 have hyl:=(List.getElem?_eq_some_iff.1 hb).1
 refine ⟨?_,?_,?_⟩
 ·-- y comes first,then what led to x
  refine ⟨fun j => if j = y then 0 else rk j + 1,⟨fun j e he => ?_,fun j e he => ?_,fun j e hj he => ?_⟩⟩
  ·rw [setNext_len]
   rcases hget j e he with ⟨_,rfl⟩ | ⟨_,he⟩
   ·simp only;omega
   ·exact h.rg j e he
  ·rcases hget j e he with ⟨rfl,rfl⟩ | ⟨hj,he⟩
   ·right
    simp only [Int.toNat_natCast]
    rw [if_neg hne]
    simp
   ·rcases h.rk j e he with h1 | h1
    ·exact .inl h1
    ·right
     have hjy : j ≠ y:=fun e' => by
      have he3 : e = b:=by
       rw [e',hb] at he
       exact (Option.some.inj he).symm
      rw [he3,hby,e',Int.toNat_natCast] at h1
      omega
     rw [if_neg hjy]
     split <;> omega
  ·rcases hget j e he with ⟨rfl,rfl⟩ | ⟨_,he⟩
   ·have:=hup hj
    simp only;omega
   ·exact h.up j e hj he
 ·unfold roots
  rw [setNext_len]
  have h1:=filter_drop (fun i => isRoot ts i) (fun i => isRoot (setNext ts x y) i) x (List.range ts.length) List.nodup_range (List.mem_range.2 hxl) (fun z hz => by
   unfold isRoot
   rw [setNext_get,if_neg hz]) (by
   unfold isRoot
   rw [setNext_get,if_pos rfl,ha]
   simp
   omega)
  rw [h1,if_pos (by unfold isRoot;rw [ha];simp [hax])]
 ·intro θ hs hab j e d he hd
  obtain ⟨d',k1,k2,_⟩:=tm_core (setNext_core ts x y).symm hd
  rw [← k2]
  rcases hget j e he with ⟨rfl,rfl⟩ | ⟨_,he⟩
  ·simp only at k1 ⊢
   rw [tm_nat hb] at k1
   cases k1
   exact hab
  ·exact hs j e d' he k1
theorem joinG_mono : ∀ {fs gs f : Nat} {n : Int} {ts : List Tm} {ps : List (Int × Int)} {r : Option (List Tm)},joinG fs f n ts ps = some r → fs ≤ gs → joinG gs f n ts ps = some r
 | fs,gs,0,n,ts,ps,r,h,hg => by simp [joinG] at h
 | fs,gs,f + 1,n,ts,ps,r,h,hg => by
  rcases List.eq_nil_or_concat ps with rfl | ⟨qs,⟨x,y⟩,rfl⟩
  ·rw [joinG_nil] at h ⊢;exact h
  ·rw [List.concat_eq_append] at h ⊢
   obtain ⟨t1,a,t2,b,h1,h2,hcase⟩:=joinG_step h
   rw [joinG]
   simp only [List.getLast?_concat,List.dropLast_concat]
   rw [speaker_mono h1 hg]
   simp only
   rw [speaker_mono h2 hg]
   simp only
   rcases hcase with ⟨e,hj⟩ | ⟨e,e2,hj⟩ | ⟨e,e2,e3,hj⟩ | ⟨e,e2,e3,p,q,hp,hq,⟨h5,hj⟩ | ⟨h5,rfl⟩⟩
   ·rw [if_pos e];exact joinG_mono hj hg
   ·rw [if_neg e,if_pos e2];exact joinG_mono hj hg
   ·rw [if_neg e,if_neg e2,if_pos e3];exact joinG_mono hj hg
   ·rw [if_neg e,if_neg e2,if_neg e3,hp,hq];simp only;rw [if_pos h5];exact joinG_mono hj hg
   ·rw [if_neg e,if_neg e2,if_neg e3,hp,hq];simp only;rw [if_neg (by simp [h5])]
structure JoinR (n : Nat) (ts : List Tm) (ps : List (Int × Int)) (r : Option (List Tm)) : Prop where
 ok : ∀ ts',r = some ts' → core ts' = core ts ∧ ∃ rk,Fo n rk ts'
 sol : ∀ θ,SolN θ ts → SolP θ ts ps → ∃ ts',r = some ts' ∧ SolN θ ts'
theorem zip_mem {x y : Int} : ∀ {l m : List Int},(x,y) ∈ l.zip m → ∃ i : Nat,l[i]? = some x ∧ m[i]? = some y
 | [],_,h => by simp at h
 | _ :: _,[],h => by simp at h
 | a :: l,b :: m,h => by
  rw [List.zip_cons_cons,List.mem_cons] at h
  rcases h with h | h
  ·cases h;exact ⟨0,rfl,rfl⟩
  ·obtain ⟨i,h1,h2⟩:=zip_mem h
   exact ⟨i + 1,by simpa using h1,by simpa using h2⟩
theorem joinG_total {n A : Nat} : ∀ (f : Nat) (ts : List Tm) (ps : List (Int × Int)),St n ts → (∃ rk,Fo n rk ts) → (∀ a ∈ ts,a.args.length ≤ A) → (∀ p ∈ ps,0 ≤ p.1 ∧ p.1 < ts.length ∧ 0 ≤ p.2 ∧ p.2 < ts.length) → roots ts * (A + 1) + ps.length < f →
  ∃ fs r,joinG fs f n ts ps = some r ∧ JoinR n ts ps r
 | 0,_,_,_,_,_,_,hf => by omega
 | f + 1,ts,ps,hst,hfo,hA,hps,hf => by
  rcases List.eq_nil_or_concat ps with rfl | ⟨qs,⟨x,y⟩,rfl⟩
  ·exact ⟨0,some ts,joinG_nil,fun ts' h => by cases h;exact ⟨rfl,hfo⟩,fun θ h _ => ⟨ts,rfl,h⟩⟩
  ·rw [List.concat_eq_append] at hps hf ⊢
   rw [List.length_append,List.length_singleton] at hf
   obtain ⟨rk,hfo⟩:=hfo
   have hxy:=hps (x,y) (by simp)
   simp only at hxy
   obtain ⟨t1,a,h1,q1⟩:=speaker_total (n:=n) (rk:=rk) (rk x.toNat + 1) ts x hfo hxy.1 hxy.2.1 (by omega)
   have hl1:=core_len q1.core
   obtain ⟨t2,b,h2,q2⟩:=speaker_total (n:=n) (rk:=rk) (rk y.toNat + 1) t1 y q1.fo hxy.2.2.1 (by omega) (by omega)
   have hc2 : core t2 = core ts:=q2.core.trans q1.core
   have hl2:=core_len hc2
   have hst2:=hst.of_core hc2
   have hrt : roots t2 = roots ts:=roots_same hl2 (fun j => (q2.roots j).trans (q1.roots j))
   have hA2 : ∀ c ∈ t2,c.args.length ≤ A:=speaker_argsA h2 (speaker_argsA h1 hA)
   have hqs2 : ∀ p ∈ qs,0 ≤ p.1 ∧ p.1 < t2.length ∧ 0 ≤ p.2 ∧ p.2 < t2.length:=fun p hp => by rw [hl2];exact hps p (by simp [hp])
   obtain ⟨p,hp2,hpn⟩:=q2.root
   obtain ⟨p1,hp1,hp1n⟩:=q1.root
   obtain ⟨hb0,hbl,hbg⟩:=tm_get hp2
   obtain ⟨ha0,hal,hag1⟩:=tm_get hp1
   have hra : isRoot t2 a.toNat = true:=by
    rw [q2.roots]
    unfold isRoot
    rw [hag1]
    simp [hp1n]
    omega
   obtain ⟨o,hag,hon⟩ : ∃ o,t2[a.toNat]? = some o ∧ o.next = (a.toNat : Int):=by
    unfold isRoot at hra
    cases hh : t2[a.toNat]? with
    | none => rw [hh] at hra;cases hra
    | some o => rw [hh] at hra;exact ⟨o,rfl,by simpa using hra⟩
   obtain ⟨ia,rfl⟩ : ∃ k : Nat,a = k:=⟨a.toNat,by omega⟩
   obtain ⟨ib,rfl⟩ : ∃ k : Nat,b = k:=⟨b.toNat,by omega⟩
   simp only [Int.toNat_natCast] at hag hon hbg hbl hal
   have hsol : ∀ θ,SolN θ ts → SolP θ ts (qs ++ [(x,y)]) → SolN θ t2 ∧ SolP θ t2 qs ∧ ap θ o.t = ap θ p.t:=fun θ hN hP => by
    have hN2:=q2.solN θ (q1.solN θ hN)
    refine ⟨hN2,SolP.of_core (fun u v c d hm hc hd => hP u v c d (by simp [hm]) hc hd) hc2,?_⟩
    obtain ⟨ax,hax⟩ : ∃ ax,tm? ts x = some ax:=⟨_,tm_of hxy.1 (List.getElem?_eq_getElem (by omega))⟩
    obtain ⟨ay,hay⟩ : ∃ ay,tm? ts y = some ay:=⟨_,tm_of hxy.2.2.1 (List.getElem?_eq_getElem (by omega))⟩
    obtain ⟨o',ho1,ho2,_⟩:=tm_core hc2.symm (tm_nat hag)
    obtain ⟨p',hpp1,hpp2,_⟩:=tm_core q2.core.symm (tm_nat hbg)
    obtain ⟨ay',hay1,hay2,_⟩:=tm_core q1.core hay
    have e1:=q1.sol θ hN ax o' hax ho1
    have e2:=q2.sol θ (q1.solN θ hN) ay' p' hay1 hpp1
    have e3:=hP x y ax ay (by simp) hax hay
    rw [← ho2,← e1,e3,← hay2,e2,hpp2]
   have hup2:=q2.up
   have hlink : ∀ (u v : Nat) (au av : Tm),t2[u]? = some au → au.next = u → t2[v]? = some av → av.next = v → u ≠ v → (n ≤ u → n ≤ v) → ∀ zs : List (Int × Int),zs.length ≤ A → (∀ z ∈ zs,0 ≤ z.1 ∧ z.1 < t2.length ∧ 0 ≤ z.2 ∧ z.2 < t2.length) →
     (∀ θ,SolN θ ts → SolP θ ts (qs ++ [(x,y)]) → ap θ au.t = ap θ av.t ∧ SolP θ t2 zs) →
     ∃ fs r,joinG fs f n (setNext t2 u v) (qs ++ zs) = some r ∧ JoinR n ts (qs ++ [(x,y)]) r:=fun u v au av hu hun hv hvn hne hup zs hzl hzr hzs => by
    obtain ⟨k1,k2,k3⟩:=q2.fo.link hu hun hv hvn hne hup
    have hmul : roots t2 * (A + 1) = roots (setNext t2 u v) * (A + 1) + (A + 1):=by rw [k2,Nat.succ_mul]
    have hsc:=setNext_core t2 u v
    obtain ⟨fs,r,r1,r2⟩:=joinG_total f (setNext t2 u v) (qs ++ zs) (hst2.of_core hsc) k1 (setNext_argsA hA2 _ _) (fun z hz => by
     rw [setNext_len]
     rcases List.mem_append.1 hz with hz | hz
     ·exact hqs2 z hz
     ·exact hzr z hz) (by
     rw [List.length_append]
     rw [← hrt] at hf
     omega)
    refine ⟨fs,r,r1,fun ts' ht => ?_,fun θ hN hP => ?_⟩
    ·obtain ⟨e1,e2⟩:=r2.ok ts' ht
     exact ⟨e1.trans (hsc.trans hc2),e2⟩
    ·obtain ⟨s1,s2,s3⟩:=hsol θ hN hP
     obtain ⟨z1,z2⟩:=hzs θ hN hP
     refine r2.sol θ (k3 θ s1 z1) (fun c d e g hm he hg => ?_)
     rcases List.mem_append.1 hm with hm | hm
     ·exact (SolP.of_core s2 hsc) c d e g hm he hg
     ·exact (SolP.of_core z2 hsc) c d e g hm he hg
   have hrun : ∀ fs r,rk x.toNat + 1 ≤ fs → rk y.toNat + 1 ≤ fs → (if (ia : Int) = ib then joinG fs f n t2 qs else if (ia : Int) < n then joinG fs f n (setNext t2 ia ib) qs else if (ib : Int) < n then joinG fs f n (setNext t2 ib ia) qs else if headOk o p then joinG fs f n (setNext t2 ia ib) (qs ++ o.args.zip p.args) else some none) = some r → joinG fs (f + 1) n ts (qs ++ [(x,y)]) = some r:=fun fs r g1 g2 hr => by
    rw [joinG]
    simp only [List.getLast?_concat,List.dropLast_concat]
    rw [speaker_mono h1 g1]
    simp only
    rw [speaker_mono h2 g2]
    simp only [Int.toNat_natCast]
    rw [tm_nat hag,tm_nat hbg]
    exact hr
   by_cases e1 : ia = ib
   ·subst e1
    obtain ⟨fs,r,r1,r2⟩:=joinG_total f t2 qs hst2 ⟨rk,q2.fo⟩ hA2 hqs2 (by rw [hrt];omega)
    refine ⟨max fs (max (rk x.toNat + 1) (rk y.toNat + 1)),r,hrun _ r (by omega) (by omega) (by rw [if_pos rfl];exact joinG_mono r1 (by omega)),fun ts' ht => ?_,fun θ hN hP => ?_⟩
    ·obtain ⟨e1,e2⟩:=r2.ok ts' ht
     exact ⟨e1.trans hc2,e2⟩
    ·obtain ⟨s1,s2,_⟩:=hsol θ hN hP
     exact r2.sol θ s1 s2
   ·have e1' : ¬ (ia : Int) = ib:=by omega
    by_cases e2 : ia < n
    ·obtain ⟨fs,r,r1,r2⟩:=hlink ia ib o p hag hon hbg hpn e1 (by omega) [] (by simp) (by simp) (fun θ hN hP => ⟨(hsol θ hN hP).2.2,fun _ _ _ _ hm => by cases hm⟩)
     rw [List.append_nil] at r1
     exact ⟨max fs (max (rk x.toNat + 1) (rk y.toNat + 1)),r,hrun _ r (by omega) (by omega) (by rw [if_neg e1',if_pos (by omega)];exact joinG_mono r1 (by omega)),r2⟩
    ·by_cases e3 : ib < n
     ·obtain ⟨fs,r,r1,r2⟩:=hlink ib ia p o hbg hpn hag hon (by omega) (by omega) [] (by simp) (by simp) (fun θ hN hP => ⟨(hsol θ hN hP).2.2.symm,fun _ _ _ _ hm => by cases hm⟩)
      rw [List.append_nil] at r1
      exact ⟨max fs (max (rk x.toNat + 1) (rk y.toNat + 1)),r,hrun _ r (by omega) (by omega) (by rw [if_neg e1',if_neg (by omega),if_pos (by omega)];exact joinG_mono r1 (by omega)),r2⟩
     ·obtain ⟨n1,n2,n3⟩:=hst2.nv ia o (by omega) hag
      obtain ⟨m1,m2,m3⟩:=hst2.nv ib p (by omega) hbg
      by_cases e4 : headOk o p = true
      ·unfold headOk at e4
       have e4':=e4
       simp only [Bool.and_eq_true,beq_iff_eq,decide_eq_true_eq] at e4'
       obtain ⟨⟨e5,e6⟩,e7⟩:=e4'
       have hle:=hA2 o (List.mem_of_getElem? hag)
       obtain ⟨fs,r,r1,r2⟩:=hlink ia ib o p hag hon hbg hpn e1 (by omega) (o.args.zip p.args) (by simp;omega) (fun z hz => by
        obtain ⟨u,v⟩:=z
        obtain ⟨i,k1,k2⟩:=zip_mem hz
        obtain ⟨c,k3,_⟩:=n3 i u _ k1 (List.getElem?_eq_getElem (by have:=(List.getElem?_eq_some_iff.1 k1).1;omega))
        obtain ⟨d,k4,_⟩:=m3 i v _ k2 (List.getElem?_eq_getElem (by have:=(List.getElem?_eq_some_iff.1 k2).1;omega))
        have g1:=tm_get k3
        have g2:=tm_get k4
        simp only
        omega) (fun θ hN hP => by
        obtain ⟨_,_,s3⟩:=hsol θ hN hP
        refine ⟨s3,fun u v c d hm hc hd => ?_⟩
        obtain ⟨i,k1,k2⟩:=zip_mem hm
        have k1l:=(List.getElem?_eq_some_iff.1 k1).1
        have k2l:=(List.getElem?_eq_some_iff.1 k2).1
        have a1:=List.getElem?_eq_getElem (l:=ar o.t) (i:=i) (by omega)
        have a2:=List.getElem?_eq_getElem (l:=ar p.t) (i:=i) (by omega)
        obtain ⟨c',k3,k5⟩:=n3 i u _ k1 a1
        obtain ⟨d',k4,k6⟩:=m3 i v _ k2 a2
        rw [hc] at k3
        rw [hd] at k4
        cases k3
        cases k4
        rw [k5,k6]
        have:=((ap_head n1 m1).1 s3).2.2
        have h8:=congrArg (fun l => l[i]?) this
        simp only [List.getElem?_map,a1,a2,Option.map_some,Option.some.injEq] at h8
        exact h8)
       exact ⟨max fs (max (rk x.toNat + 1) (rk y.toNat + 1)),r,hrun _ r (by omega) (by omega) (by rw [if_neg e1',if_neg (by omega),if_neg (by omega),if_pos (by unfold headOk;exact e4)];exact joinG_mono r1 (by omega)),r2⟩
      ·refine ⟨max (rk x.toNat + 1) (rk y.toNat + 1),none,hrun _ none (by omega) (by omega) (by rw [if_neg e1',if_neg (by omega),if_neg (by omega),if_neg e4]),fun ts' h => (by cases h),fun θ hN hP => ?_⟩
       obtain ⟨_,_,s3⟩:=hsol θ hN hP
       have h8:=(ap_head n1 m1).1 s3
       refine absurd ?_ e4
       unfold headOk
       have h9:=congrArg List.length h8.2.2
       simp only [List.length_map] at h9
       simp only [Bool.and_eq_true,beq_iff_eq,decide_eq_true_eq]
       exact ⟨⟨h8.1,h8.2.1⟩,by omega⟩
end Un
end Go.Proofs.Ytcdlnhfgehhkcaa
namespace Go.Proofs.Ytcdlnhfgehhkcaa
namespace Un
structure AddR (n A : Nat) (ts ts' : List Tm) : Prop where
 pre : ∀ (i : Nat) (a : Tm),ts[i]? = some a → ts'[i]? = some a
 len : ts.length ≤ ts'.length
 new : ∀ (i : Nat) (a : Tm),ts.length ≤ i → ts'[i]? = some a → a.next = i
 st : St n ts → St n ts'
 args : (∀ a ∈ ts,a.args.length ≤ A) → ∀ a ∈ ts',a.args.length ≤ A
theorem AddR.tm {n A : Nat} {ts ts' : List Tm} (h : AddR n A ts ts') {i : Int} {a : Tm} (ha : tm? ts i = some a) : tm? ts' i = some a:=by
 obtain ⟨h0,_,h1⟩:=tm_get ha
 exact tm_of h0 (h.pre _ _ h1)
theorem AddR.refl (n A : Nat) (ts : List Tm) : AddR n A ts ts:=⟨fun _ _ h => h,Nat.le_refl _,fun i a hi ha => by have:=(List.getElem?_eq_some_iff.1 ha).1;omega,fun h => h,fun h => h⟩
theorem AddR.trans {n A : Nat} {a b c : List Tm} (h : AddR n A a b) (k : AddR n A b c) : AddR n A a c:=by
 refine ⟨fun i x hx => k.pre i x (h.pre i x hx),Nat.le_trans h.len k.len,fun i x hi hx => ?_,fun hs => k.st (h.st hs),fun hs => k.args (h.args hs)⟩
 by_cases h1 : b.length ≤ i
 ·exact k.new i x h1 hx
 ·have h2:=List.getElem?_eq_getElem (l:=b) (i:=i) (by omega)
  have h3:=k.pre i _ h2
  rw [hx] at h3
  cases h3
  exact h.new i _ hi h2
theorem AddR.fo {n A : Nat} {ts ts' : List Tm} (h : AddR n A ts ts') (hn : n ≤ ts.length) {rk : Nat → Nat} (hf : Fo n rk ts) : Fo n rk ts':=by
 have key : ∀ (i : Nat) (a : Tm),ts'[i]? = some a → (ts[i]? = some a ∧ i < ts.length) ∨ (ts.length ≤ i ∧ a.next = i):=fun i a ha => by
  by_cases h1 : ts.length ≤ i
  ·exact .inr ⟨h1,h.new i a h1 ha⟩
  ·have h2:=List.getElem?_eq_getElem (l:=ts) (i:=i) (by omega)
   have h3:=h.pre i _ h2
   rw [ha] at h3
   cases h3
   exact .inl ⟨h2,by omega⟩
 have hl:=h.len
 refine ⟨fun i a ha => ?_,fun i a ha => ?_,fun i a hi ha => ?_⟩
 ·have:=(List.getElem?_eq_some_iff.1 ha).1
  rcases key i a ha with ⟨h1,h2⟩ | ⟨h1,h2⟩
  ·have:=hf.rg i a h1;omega
  ·omega
 ·rcases key i a ha with ⟨h1,h2⟩ | ⟨h1,h2⟩
  ·exact hf.rk i a h1
  ·exact .inl h2
 ·rcases key i a ha with ⟨h1,h2⟩ | ⟨h1,h2⟩
  ·exact hf.up i a hi h1
  ·omega
theorem AddR.solN {n A : Nat} {ts ts' : List Tm} (h : AddR n A ts ts') {rk : Nat → Nat} (hf : Fo n rk ts) {θ : Int → Ty} (hs : SolN θ ts) : SolN θ ts':=by
 intro i a c ha hc
 by_cases h1 : ts.length ≤ i
 ·rw [h.new i a h1 ha,tm_nat ha] at hc
  cases hc;rfl
 ·have h2:=List.getElem?_eq_getElem (l:=ts) (i:=i) (by omega)
  have h3:=h.pre i _ h2
  rw [ha] at h3
  cases h3
  have hg:=hf.rg i _ h2
  obtain ⟨d,hd⟩ : ∃ d,tm? ts ts[i].next = some d:=⟨_,tm_of hg.1 (List.getElem?_eq_getElem (l:=ts) (i:=ts[i].next.toNat) (by omega))⟩
  rw [h.tm hd] at hc
  have hdc:=Option.some.inj hc
  rw [← hdc]
  exact hs i _ d h2 hd
theorem St.get {n : Nat} {ts : List Tm} (h : St n ts) {i : Int} (h0 : 0 ≤ i) (hi : i < n) : ∃ a,tm? ts i = some a ∧ a.t = var i:=by
 have hl:=h.le
 have h1:=List.getElem?_eq_getElem (l:=ts) (i:=i.toNat) (by omega)
 refine ⟨_,tm_of h0 h1,?_⟩
 rw [h.vr i.toNat _ (by omega) h1]
 rw [Int.toNat_of_nonneg h0]
theorem add_ok (n A : Nat) : ∀ (t : Ty) (ts : List Tm),St n ts → vin n t = true → size t ≤ A → AddR n A ts (add ts t).1 ∧ ∃ a,tm? (add ts t).1 (add ts t).2 = some a ∧ a.t = t:=by
 refine Ty.ind fun k i al ih => ?_
 intro ts hst hv hsz
 rw [vin_eq] at hv
 rw [add_eq]
 by_cases h9 : kd (Ty.mk k i al) = 9
 ·rw [if_pos h9] at hv ⊢
  simp only [Bool.and_eq_true,decide_eq_true_eq,List.isEmpty_iff] at hv
  obtain ⟨⟨h0,h1⟩,h2⟩:=hv
  simp only [kd,nm,ar] at h9 h0 h1 h2 ⊢
  subst h9
  subst h2
  obtain ⟨a,ha,hat⟩:=hst.get h0 h1
  exact ⟨AddR.refl n A ts,a,ha,hat⟩
 ·rw [if_neg h9] at hv ⊢
  simp only [List.all_eq_true] at hv
  have hlen : al.length < size (Ty.mk k i al):=len_lt
  have hlt : ∀ a ∈ al,size a < size (Ty.mk k i al):=fun a ha => size_lt ha
  have key : ∀ (l : List Ty),(∀ a ∈ l,a ∈ al) → ∀ ts,St n ts → AddR n A ts (adds ts l).1 ∧ ∀ (m : Nat) (x : Int) (u : Ty),(adds ts l).2[m]? = some x → l[m]? = some u → ∃ c,tm? (adds ts l).1 x = some c ∧ c.t = u:=by
   intro l
   induction l with
   | nil => intro _ ts hst;rw [adds];exact ⟨AddR.refl n A ts,fun m x u hx => by simp at hx⟩
   | cons a r ihr =>
    intro hm ts hst
    rw [adds]
    obtain ⟨h1,c,hc,hct⟩:=ih a (hm a (by simp)) ts hst (hv a (hm a (by simp))) (by have:=hlt a (hm a (by simp));omega)
    obtain ⟨h2,h3⟩:=ihr (fun b hb => hm b (by simp [hb])) (add ts a).1 (h1.st hst)
    refine ⟨h1.trans h2,fun m x u hx hu => ?_⟩
    cases m with
    | zero =>
     simp only [List.getElem?_cons_zero,Option.some.injEq] at hx hu
     subst hx
     subst hu
     exact ⟨c,h2.tm hc,hct⟩
    | succ m =>
     simp only [List.getElem?_cons_succ] at hx hu
     exact h3 m x u hx hu
  obtain ⟨h1,h2⟩:=key al (fun a h => h) ts hst
  have hl2:=adds_len2 al ts
  simp only [ar]
  have hget : ∀ (j : Nat) (a : Tm),((adds ts al).1 ++ [(⟨Ty.mk k i al,(adds ts al).2,(adds ts al).1.length⟩ : Tm)])[j]? = some a → (adds ts al).1[j]? = some a ∨ (j = (adds ts al).1.length ∧ a = ⟨Ty.mk k i al,(adds ts al).2,(adds ts al).1.length⟩):=fun j a ha => by
   by_cases hj : j < (adds ts al).1.length
   ·rw [List.getElem?_append_left hj] at ha;exact .inl ha
   ·rw [List.getElem?_append_right (by omega)] at ha
    have hj2 : j - (adds ts al).1.length = 0:=by
     have:=(List.getElem?_eq_some_iff.1 ha).1
     simp at this
     omega
    rw [hj2] at ha
    simp only [List.getElem?_cons_zero,Option.some.injEq] at ha
    exact .inr ⟨by omega,ha.symm⟩
  have hpre : ∀ (j : Nat) (a : Tm),(adds ts al).1[j]? = some a → ((adds ts al).1 ++ [(⟨Ty.mk k i al,(adds ts al).2,(adds ts al).1.length⟩ : Tm)])[j]? = some a:=fun j a ha => by
   rw [List.getElem?_append_left (List.getElem?_eq_some_iff.1 ha).1];exact ha
  have hself : ((adds ts al).1 ++ [(⟨Ty.mk k i al,(adds ts al).2,(adds ts al).1.length⟩ : Tm)])[(adds ts al).1.length]? = some ⟨Ty.mk k i al,(adds ts al).2,(adds ts al).1.length⟩:=by simp
  have htm : ∀ (x : Int) (a : Tm),tm? (adds ts al).1 x = some a → tm? ((adds ts al).1 ++ [(⟨Ty.mk k i al,(adds ts al).2,(adds ts al).1.length⟩ : Tm)]) x = some a:=fun x a ha => by
   obtain ⟨g0,_,g1⟩:=tm_get ha
   exact tm_of g0 (hpre _ _ g1)
  refine ⟨h1.trans ⟨hpre,by simp,fun j a hj ha => ?_,fun hs => ?_,fun hs a ha => ?_⟩,_,tm_nat hself,rfl⟩
  ·rcases hget j a ha with h | ⟨h,rfl⟩
   ·have:=(List.getElem?_eq_some_iff.1 h).1;omega
   ·rw [h]
  ·refine ⟨by rw [List.length_append];have:=hs.le;omega,fun j a hj ha => ?_,fun j a hj ha => ?_⟩
   ·rcases hget j a ha with h | ⟨h,rfl⟩
    ·exact hs.vr j a hj h
    ·have:=hs.le;omega
   ·rcases hget j a ha with h | ⟨h,rfl⟩
    ·obtain ⟨k1,k2,k3⟩:=hs.nv j a hj h
     refine ⟨k1,k2,fun m x u hx hu => ?_⟩
     obtain ⟨c,g1,g2⟩:=k3 m x u hx hu
     exact ⟨c,htm x c g1,g2⟩
    ·refine ⟨h9,hl2,fun m x u hx hu => ?_⟩
     obtain ⟨c,g1,g2⟩:=h2 m x u hx hu
     exact ⟨c,htm x c g1,g2⟩
  ·rcases List.mem_append.1 ha with h | h
   ·exact hs a h
   ·rw [List.mem_singleton] at h
    subst h
    simp only
    omega
theorem fresh_get : ∀ (n i : Nat),i < n → (fresh n)[i]? = some ⟨var i,[],i⟩
 | n + 1,i,h => by
  rw [fresh]
  by_cases e : i < n
  ·rw [List.getElem?_append_left (by rw [fresh_len];exact e)];exact fresh_get n i e
  ·obtain rfl : i = n:=by omega
   rw [List.getElem?_append_right (by rw [fresh_len];exact Nat.le_refl _),fresh_len];simp
theorem fresh_st (n : Nat) : St n (fresh n):=⟨by rw [fresh_len];exact Nat.le_refl _,fun i a hi ha => by rw [fresh_get n i hi] at ha;cases ha;rfl,fun i a hi ha => by have:=(List.getElem?_eq_some_iff.1 ha).1;rw [fresh_len] at this;omega⟩
theorem fresh_next {n i : Nat} {a : Tm} (ha : (fresh n)[i]? = some a) : i < n ∧ a = ⟨var i,[],i⟩:=by
 have h:=(List.getElem?_eq_some_iff.1 ha).1
 rw [fresh_len] at h
 rw [fresh_get n i h] at ha
 cases ha
 exact ⟨h,rfl⟩
theorem fresh_fo (n : Nat) : Fo n (fun _ => 0) (fresh n):=by
 refine ⟨fun i a ha => ?_,fun i a ha => ?_,fun i a hi ha => ?_⟩ <;> obtain ⟨h,rfl⟩:=fresh_next ha
 ·rw [fresh_len];simp only;omega
 ·exact .inl rfl
 ·omega
theorem fresh_sol (n : Nat) (θ : Int → Ty) : SolN θ (fresh n):=by
 intro i a c ha hc
 obtain ⟨h,rfl⟩:=fresh_next ha
 rw [tm_nat ha] at hc
 cases hc;rfl
theorem fresh_args (n A : Nat) : ∀ a ∈ fresh n,a.args.length ≤ A:=by
 intro a ha
 obtain ⟨i,hi⟩:=List.mem_iff_getElem?.1 ha
 obtain ⟨_,rfl⟩:=fresh_next hi
 simp
theorem roots_le (ts : List Tm) : roots ts ≤ ts.length:=by
 unfold roots
 have:=List.length_filter_le (fun i => isRoot ts i) (List.range ts.length)
 simpa using this
theorem core_args {ts ts' : List Tm} (h : core ts' = core ts) {A : Nat} (ha : ∀ a ∈ ts,a.args.length ≤ A) : ∀ a ∈ ts',a.args.length ≤ A:=by
 intro a hm
 obtain ⟨i,hi⟩:=List.mem_iff_getElem?.1 hm
 obtain ⟨b,h1,_,h3⟩:=core_get h.symm hi
 rw [← h3]
 exact ha b (List.mem_of_getElem? h1)
def newS (fs f : Nat) (n : Int) : Nat → List Ty → List Tm → Option (Option (List Tm))
 | _,[],ts => some (some ts)
 | i,t :: l,ts => if unsolved t = true then newS fs f n (i + 1) l ts else match joinG fs f n (add ts t).1 [((i : Int),(add ts t).2)] with
  | none => none
  | some none => some none
  | some (some ts') => newS fs f n (i + 1) l ts'
theorem newS_mono {fs gs f : Nat} {n : Int} : ∀ {l : List Ty} {i : Nat} {ts : List Tm} {r : Option (List Tm)},newS fs f n i l ts = some r → fs ≤ gs → newS gs f n i l ts = some r
 | [],i,ts,r,h,_ => h
 | t :: l,i,ts,r,h,hg => by
  rw [newS] at h ⊢
  split at h
  ·rename_i hu;rw [if_pos hu];exact newS_mono h hg
  ·rename_i hu
   rw [if_neg hu]
   cases h1 : joinG fs f n (add ts t).1 [((i : Int),(add ts t).2)] with
   | none => rw [h1] at h;cases h
   | some o =>
    rw [h1] at h
    rw [joinG_mono h1 hg]
    cases o with
    | none => exact h
    | some ts' => exact newS_mono h hg
def Holds (θ : Int → Ty) (i : Nat) (l : List Ty) : Prop:=∀ (j : Nat) (t : Ty),l[j]? = some t → unsolved t = true ∨ ap θ t = θ ((i + j : Nat) : Int)
structure NewR (n A : Nat) (i : Nat) (l : List Ty) (ts : List Tm) (r : Option (List Tm)) : Prop where
 ok : ∀ ts',r = some ts' → St n ts' ∧ (∃ rk,Fo n rk ts') ∧ (∀ a ∈ ts',a.args.length ≤ A) ∧ ts'.length ≤ ts.length + sizes l
 sol : ∀ θ,SolN θ ts → Holds θ i l → ∃ ts',r = some ts' ∧ SolN θ ts'
theorem newS_total {n A f : Nat} : ∀ (l : List Ty) (i : Nat) (ts : List Tm),i + l.length ≤ n → (∀ t ∈ l,unsolved t = true ∨ (vin n t = true ∧ size t ≤ A)) → St n ts → (∃ rk,Fo n rk ts) → (∀ a ∈ ts,a.args.length ≤ A) → (ts.length + sizes l) * (A + 1) + 1 < f →
  ∃ fs r,newS fs f n i l ts = some r ∧ NewR n A i l ts r
 | [],i,ts,hi,hl,hst,hfo,hA,hf => ⟨0,some ts,rfl,fun ts' h => by cases h;exact ⟨hst,hfo,hA,by simp [sizes]⟩,fun θ h _ => ⟨ts,rfl,h⟩⟩
 | t :: l,i,ts,hi,hl,hst,hfo,hA,hf => by
  rw [sizes] at hf
  rw [List.length_cons] at hi
  by_cases hu : unsolved t = true
  ·obtain ⟨fs,r,r1,r2⟩:=newS_total (A:=A) (f:=f) l (i + 1) ts (by omega) (fun u hu => hl u (by simp [hu])) hst hfo hA (by
    have : (ts.length + sizes l) * (A + 1) ≤ (ts.length + (size t + sizes l)) * (A + 1):=Nat.mul_le_mul_right _ (by omega)
    omega)
   refine ⟨fs,r,by rw [newS,if_pos hu];exact r1,fun ts' h => ?_,fun θ h1 h2 => r2.sol θ h1 (fun j u hj => by
    have:=h2 (j + 1) u (by simpa using hj)
    rwa [show i + (j + 1) = i + 1 + j by omega] at this)⟩
   obtain ⟨a1,a2,a3,a4⟩:=r2.ok ts' h
   exact ⟨a1,a2,a3,by rw [sizes];omega⟩
  ·obtain ⟨hv,hsz⟩:=(hl t (by simp)).resolve_left hu
   obtain ⟨h1,a,ha,hat⟩:=add_ok n A t ts hst hv hsz
   obtain ⟨rk,hfo⟩:=hfo
   have hst1:=h1.st hst
   have hfo1:=h1.fo hst.le hfo
   have hA1:=h1.args hA
   have hlen:=add_len t ts
   obtain ⟨ha0,hal,_⟩:=tm_get ha
   have hnl:=hst1.le
   have hmul : (add ts t).1.length * (A + 1) ≤ (ts.length + (size t + sizes l)) * (A + 1):=Nat.mul_le_mul_right _ (by omega)
   have hrl : roots (add ts t).1 * (A + 1) ≤ (add ts t).1.length * (A + 1):=Nat.mul_le_mul_right _ (roots_le _)
   obtain ⟨fs,r,r1,r2⟩:=joinG_total (n:=n) (A:=A) f (add ts t).1 [((i : Int),(add ts t).2)] hst1 ⟨rk,hfo1⟩ hA1 (fun p hp => by
    rw [List.mem_singleton] at hp
    subst hp
    simp only
    omega) (by simp only [List.length_singleton];omega)
   have hsolP : ∀ θ,Holds θ i (t :: l) → SolP θ (add ts t).1 [((i : Int),(add ts t).2)]:=fun θ hh x y b c hm hb hc => by
    rw [List.mem_singleton] at hm
    cases hm
    rw [ha] at hc
    cases hc
    obtain ⟨d,hd,hdt⟩:=hst1.get (i:=(i : Int)) (by omega) (by omega)
    rw [hd] at hb
    cases hb
    rw [hdt,hat,ap_var]
    have:=(hh 0 t rfl).resolve_left hu
    rw [this];rfl
   cases r with
   | none =>
    refine ⟨fs,none,by rw [newS,if_neg hu,r1],fun ts' h => (by cases h),fun θ k1 k2 => ?_⟩
    obtain ⟨ts',h2,_⟩:=r2.sol θ (h1.solN hfo k1) (hsolP θ k2)
    cases h2
   | some ts1 =>
    obtain ⟨k1,k2⟩:=r2.ok ts1 rfl
    have hl1:=core_len k1
    obtain ⟨fs2,r,q1,q2⟩:=newS_total (A:=A) (f:=f) l (i + 1) ts1 (by omega) (fun u hu => hl u (by simp [hu])) (hst1.of_core k1) k2 (core_args k1 hA1) (by
     have : (ts1.length + sizes l) * (A + 1) ≤ (ts.length + (size t + sizes l)) * (A + 1):=Nat.mul_le_mul_right _ (by omega)
     omega)
    refine ⟨max fs fs2,r,by rw [newS,if_neg hu,joinG_mono (gs:=max fs fs2) r1 (by omega)];exact newS_mono q1 (by omega),fun ts' h => ?_,fun θ g1 g2 => ?_⟩
    ·obtain ⟨a1,a2,a3,a4⟩:=q2.ok ts' h
     exact ⟨a1,a2,a3,by rw [sizes];omega⟩
    ·obtain ⟨ts',h2,h3⟩:=r2.sol θ (h1.solN hfo g1) (hsolP θ g2)
     cases h2
     exact q2.sol θ h3 (fun j u hj => by
      have:=g2 (j + 1) u (by simpa using hj)
      rwa [show i + (j + 1) = i + 1 + j by omega] at this)
theorem sol_mono {fs gs n : Nat} {ts : List Tm} (hg : fs ≤ gs) : ∀ {i : Nat} {y : List Tm × (Int → Option Int) × List Ty},sol fs n ts i = some y → sol gs n ts i = some y
 | 0,y,h => h
 | i + 1,y,h => by
  rw [sol] at h ⊢
  cases h1 : sol fs n ts i with
  | none => simp [h1] at h
  | some x =>
   rw [h1] at h
   rw [sol_mono hg h1]
   simp only at h ⊢
   unfold solStep at h ⊢
   cases h2 : speaker fs x.1 i with
   | none => simp [h2] at h
   | some z =>
    rw [h2] at h
    rw [speaker_mono h2 hg]
    exact h
def Elem (n : Nat) (ts : List Tm) (out : List Ty) (i : Nat) (x : Ty) : Prop:=
 x = zero ∨ (∃ f : Nat,x = var f ∧ f < i ∧ ∃ y,out[f]? = some y ∧ kd y ≠ 9) ∨ (∃ (j : Nat) (a : Tm),n ≤ j ∧ ts[j]? = some a ∧ x = a.t)
structure SolR (n : Nat) (ts : List Tm) (i : Nat) (y : List Tm × (Int → Option Int) × List Ty) : Prop where
 core : core y.1 = core ts
 len : y.2.2.length = n
 fo : ∃ rk,Fo n rk y.1
 after : ∀ j,i ≤ j → j < n → y.2.2[j]? = some zero
 shape : ∀ (j : Nat) (x : Ty),j < i → y.2.2[j]? = some x → Elem n ts y.2.2 j x
 lst : ∀ (sp k : Int),y.2.1 sp = some k → ∃ f : Nat,k = f ∧ f < i ∧ (∃ x,y.2.2[f]? = some x ∧ kd x ≠ 9) ∧ ∀ θ,SolN θ ts → ∀ a,tm? ts sp = some a → θ f = ap θ a.t
 sol : ∀ θ,SolN θ ts → SolN θ y.1 ∧ ∀ (j : Nat) (x : Ty),y.2.2[j]? = some x → unsolved x = true ∨ ap θ x = θ j
theorem sol_total {n fs : Nat} {rk : Nat → Nat} {ts : List Tm} (hst : St n ts) (hfo : Fo n rk ts) (hfs : ∀ i,i < n → rk i < fs) : ∀ (i : Nat),i ≤ n → ∃ y,sol fs n ts i = some y ∧ SolR n ts i y ∧ Fo n rk y.1
 | 0,_ => ⟨_,rfl,⟨rfl,by simp,⟨rk,hfo⟩,fun j _ hj => by simp [List.getElem?_replicate,hj],fun j x hj => by omega,fun sp k h => (by cases h),fun θ h => ⟨h,fun j x hx => by
   have:=List.mem_of_getElem? hx
   rw [List.mem_replicate] at this
   left;rw [this.2];rfl⟩⟩,hfo⟩
 | i + 1,hi => by
  obtain ⟨y,h1,h2,h3⟩:=sol_total hst hfo hfs i (by omega)
  obtain ⟨ts1,lst,out⟩:=y
  simp only at h3
  have hcl:=core_len h2.core
  simp only at hcl
  have hle:=hst.le
  obtain ⟨ts2,sp,g1,g2⟩:=speaker_total (n:=n) (rk:=rk) fs ts1 (i : Int) h3 (by omega) (by omega) (by rw [Int.toNat_natCast];exact hfs i (by omega))
  have hspl:=speaker_len g1
  have hc2 : core ts2 = core ts:=g2.core.trans h2.core
  have hout : out.length = n:=h2.len
  have hz : out[i]? = some zero:=h2.after i (Nat.le_refl _) (by omega)
  obtain ⟨p,hp,hpt⟩ : ∃ p,tm? ts sp = some p ∧ True:=⟨_,tm_of hspl.2.1 (List.getElem?_eq_getElem (by omega)),trivial⟩
  have hθ : ∀ θ,SolN θ ts → θ i = ap θ p.t:=fun θ hs => by
   obtain ⟨s1,_⟩:=h2.sol θ hs
   obtain ⟨a,ha,hat⟩:=hst.get (i:=(i : Int)) (by omega) (by omega)
   obtain ⟨a',ha',hat',_⟩:=tm_core h2.core ha
   obtain ⟨p',hp',hpt',_⟩:=tm_core h2.core hp
   have:=g2.sol θ s1 a' p' ha' hp'
   rw [hat',hat,ap_var,hpt'] at this
   exact this
  rw [sol,h1]
  unfold solStep
  simp only
  rw [g1]
  simp only
  cases hls : lst sp with
  | some k =>
   simp only
   obtain ⟨f,rfl,hf,⟨x,hx,hxk⟩,hfθ⟩:=h2.lst sp k hls
   simp only at hx
   have hne : f ≠ i:=by omega
   have hset : ∀ (j : Nat) (u : Ty),j ≠ i → ((out.set i (var f))[j]? = some u ↔ out[j]? = some u):=fun j u hj => by rw [List.getElem?_set_ne (by omega)]
   have hself : (out.set i (var f))[i]? = some (var f):=List.getElem?_set_self (by omega)
   refine ⟨_,rfl,⟨hc2,by simp [hout],⟨rk,g2.fo⟩,fun j hj hjn => ?_,fun j u hj hu => ?_,fun sp' k' h => ?_,fun θ hs => ⟨g2.solN θ (h2.sol θ hs).1,fun j u hu => ?_⟩⟩,g2.fo⟩
   ·exact (hset j _ (by omega)).2 (h2.after j (by omega) hjn)
   ·by_cases e : j = i
    ·subst e
     simp only at hu
     rw [hself] at hu
     cases hu
     exact .inr (.inl ⟨f,rfl,hf,x,(hset f x hne).2 hx,hxk⟩)
    ·rcases h2.shape j u (by omega) ((hset j u e).1 hu) with h | ⟨g,h,hg,z,hz1,hz2⟩ | h
     ·exact .inl h
     ·exact .inr (.inl ⟨g,h,hg,z,(hset g z (by omega)).2 hz1,hz2⟩)
     ·exact .inr (.inr h)
   ·obtain ⟨g,e1,e2,⟨z,e3,e4⟩,e5⟩:=h2.lst sp' k' h
    exact ⟨g,e1,by omega,⟨z,(hset g z (by omega)).2 e3,e4⟩,e5⟩
   ·by_cases e : j = i
    ·subst e
     simp only at hu
     rw [hself] at hu
     cases hu
     right
     rw [ap_var,hfθ θ hs p hp,hθ θ hs]
    ·exact (h2.sol θ hs).2 j u ((hset j u e).1 hu)
  | none =>
   simp only
   have hlst : ∀ (x : Ty) (els : List Ty),els[i]? = some x → kd x ≠ 9 → (∀ (j : Nat) (u : Ty),j ≠ i → (els[j]? = some u ↔ out[j]? = some u)) → ∀ (sp' k : Int),(if sp' = sp then some (i : Int) else lst sp') = some k → ∃ f : Nat,k = f ∧ f < i + 1 ∧ (∃ x,els[f]? = some x ∧ kd x ≠ 9) ∧ ∀ θ,SolN θ ts → ∀ a,tm? ts sp' = some a → θ f = ap θ a.t:=fun x els hx hxk hels sp' k h => by
    split at h
    ·rename_i e
     simp only [Option.some.injEq] at h
     subst h
     refine ⟨i,rfl,by omega,⟨x,hx,hxk⟩,fun θ hs a ha => ?_⟩
     rw [e,hp] at ha
     cases ha
     exact hθ θ hs
    ·obtain ⟨g,e1,e2,⟨z,e3,e4⟩,e5⟩:=h2.lst sp' k h
     exact ⟨g,e1,by omega,⟨z,(hels g z (by omega)).2 e3,e4⟩,e5⟩
   by_cases hns : n ≤ sp.toNat
   ·rw [if_pos hns]
    obtain ⟨q,hq,hqt,_⟩:=tm_core hc2 hp
    obtain ⟨hq0,_,hqg⟩:=tm_get hq
    obtain ⟨hp0,_,hpg⟩:=tm_get hp
    rw [hqg]
    simp only [Option.map_some,Option.getD_some]
    rw [hqt]
    have hpk:=(hst.nv _ p hns hpg).1
    have hset : ∀ (j : Nat) (u : Ty),j ≠ i → ((out.set i p.t)[j]? = some u ↔ out[j]? = some u):=fun j u hj => by rw [List.getElem?_set_ne (by omega)]
    have hself : (out.set i p.t)[i]? = some p.t:=List.getElem?_set_self (by omega)
    refine ⟨_,rfl,⟨hc2,by simp [hout],⟨rk,g2.fo⟩,fun j hj hjn => ?_,fun j u hj hu => ?_,hlst p.t _ hself hpk hset,fun θ hs => ⟨g2.solN θ (h2.sol θ hs).1,fun j u hu => ?_⟩⟩,g2.fo⟩
    ·exact (hset j _ (by omega)).2 (h2.after j (by omega) hjn)
    ·by_cases e : j = i
     ·subst e
      simp only at hu
      rw [hself] at hu
      cases hu
      exact .inr (.inr ⟨_,p,hns,hpg,rfl⟩)
     ·rcases h2.shape j u (by omega) ((hset j u e).1 hu) with h | ⟨g,h,hg,z,hz1,hz2⟩ | h
      ·exact .inl h
      ·exact .inr (.inl ⟨g,h,hg,z,(hset g z (by omega)).2 hz1,hz2⟩)
      ·exact .inr (.inr h)
    ·by_cases e : j = i
     ·subst e
      simp only at hu
      rw [hself] at hu
      cases hu
      right
      rw [hθ θ hs]
     ·exact (h2.sol θ hs).2 j u ((hset j u e).1 hu)
   ·rw [if_neg hns]
    refine ⟨_,rfl,⟨hc2,hout,⟨rk,g2.fo⟩,fun j hj hjn => h2.after j (by omega) hjn,fun j u hj hu => ?_,hlst zero out hz (by decide) (fun j u _ => Iff.rfl),fun θ hs => ⟨g2.solN θ (h2.sol θ hs).1,fun j u hu => (h2.sol θ hs).2 j u hu⟩⟩,g2.fo⟩
    by_cases e : j = i
    ·subst e
     simp only at hu
     rw [hz] at hu
     cases hu
     exact .inl rfl
    ·exact h2.shape j u (by omega) hu
end Un
end Go.Proofs.Ytcdlnhfgehhkcaa
