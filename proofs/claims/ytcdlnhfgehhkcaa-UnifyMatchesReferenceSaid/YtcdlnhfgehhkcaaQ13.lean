/- part of the proof -/
import Derived.Test.YtcdlnhfgehhkcaaQ12
set_option linter.unusedVariables false
set_option linter.unusedSimpArgs false
set_option linter.unusedSectionVars false
namespace Go.Proofs.Ytcdlnhfgehhkcaa
open Go.RowKit Go.Lib
open Un (kd nm ar size sizes above Bd over)
namespace Un
def vars (s : List Ty) (e : Nat) : Int → Option Int:=match s[e]? with
 | some t => above t (fun _ => none) 0
 | none => fun _ => none
def plOf (s : List Ty) (e : Nat) (v : Nat) : List (Int × Int):=match vars s e v with
 | some a => [((e : Int),a)]
 | none => []
def plAt (s : List Ty) : Nat → Nat → List (Int × Int)
 | 0,_ => []
 | i + 1,v => plAt s i v ++ plOf s i v
def cnt (s : List Ty) (e : Nat) : Nat:=((List.range s.length).filter fun (v : Nat) => (vars s e (v : Int)).isSome).length
def misAt (s : List Ty) (i : Nat) : List Int:=(List.range s.length).map fun e => if e < i then (cnt s e : Int) else 0
def depE (s : List Ty) (e : Nat) : Nat:=match s[e]? with
 | some t => depth t
 | none => 0
def depAt (s : List Ty) (i : Nat) : List Int:=(List.range s.length).map fun e => if e < i then (depE s e : Int) else 0
def doneAt (s : List Ty) : Nat → List Int
 | 0 => []
 | i + 1 => if cnt s i = 0 then doneAt s i ++ [(i : Int)] else doneAt s i
theorem map_at_succ {n i : Nat} (f : Nat → Int) (hi : i < n) : ((List.range n).map fun e => if e < i then f e else 0).set i (f i) = (List.range n).map fun e => if e < i + 1 then f e else 0:=by
 refine List.ext_getElem? fun j => ?_
 by_cases hj : j < n
 ·by_cases e : j = i
  ·subst e
   rw [List.getElem?_set_self (by simpa using hj)]
   simp [hj]
  ·rw [List.getElem?_set_ne (by omega)]
   simp only [List.getElem?_map,List.getElem?_range hj,Option.map_some]
   by_cases h1 : j < i
   ·rw [if_pos h1,if_pos (by omega)]
   ·rw [if_neg h1,if_neg (by omega)]
 ·rw [List.getElem?_eq_none (by simp;omega),List.getElem?_eq_none (by simp;omega)]
theorem misAt_succ (s : List Ty) {i : Nat} (hi : i < s.length) : (misAt s i).set i (cnt s i) = misAt s (i + 1):=map_at_succ (fun e => (cnt s e : Int)) hi
theorem depAt_succ (s : List Ty) {i : Nat} (hi : i < s.length) : (depAt s i).set i (depE s i) = depAt s (i + 1):=map_at_succ (fun e => (depE s e : Int)) hi
theorem above_range (L : Nat) : ∀ (t : Ty) (f : Int → Option Int) (lv : Int),vin L t = true → (∀ i,(f i).isSome = true → 0 ≤ i ∧ i < L) → ∀ i,(above t f lv i).isSome = true → 0 ≤ i ∧ i < L:=by
 refine Un.Ty.ind fun k x al ih => ?_
 intro f lv ho hf
 rw [above_eq]
 rw [vin_eq] at ho
 by_cases h : kd (Ty.mk k x al) = 9
 ·rw [if_pos h] at ho ⊢
  simp only [Bool.and_eq_true,decide_eq_true_eq] at ho
  intro i hi
  unfold upd at hi
  split at hi
  ·rename_i e;subst e;exact ho.1
  ·exact hf i hi
 ·rw [if_neg h] at ho ⊢
  simp only [List.all_eq_true] at ho
  have key : ∀ (l : List Ty),(∀ a ∈ l,a ∈ al) → ∀ (f : Int → Option Int),(∀ i,(f i).isSome = true → 0 ≤ i ∧ i < L) → ∀ i,(aboves l f (lv + 1) i).isSome = true → 0 ≤ i ∧ i < L:=by
   intro l
   induction l with
   | nil => intro _ f hf i hi;rw [aboves] at hi;exact hf i hi
   | cons a r ihr =>
    intro hm f hf i hi
    rw [aboves] at hi
    exact ihr (fun b hb => hm b (by simp [hb])) _ (ih a (hm a (by simp)) f (lv + 1) (ho a (hm a (by simp))) hf) i hi
  exact key al (fun a h => h) f hf
end Un
def IntsB (w : World) (b : Nat) (l : List Int) : Prop:=Blk w b 3 (l.map (Value.int .i64)).toArray
theorem IntsB.lt {w : World} {b : Nat} {l : List Int} (h : IntsB w b l) : b < w.heap.size:=Blk.lt h
theorem IntsB.keep {w w' : World} {b : Nat} {l : List Int} (h : IntsB w b l) {X : List Nat} (hf : Fr X w w') (hx : b ∉ X) : IntsB w' b l:=Blk.keep h hf hx
theorem IntsB.el {w : World} {b : Nat} {l : List Int} (h : IntsB w b l) {i : Nat} {x : Int} (hx : l[i]? = some x) : w.cell? ⟨b,i,none⟩ = some (.int .i64 x):=by
 rw [Blk.cell h];simp [hx]
theorem IntsB.frozen {w : World} {b : Nat} {l : List Int} (h : IntsB w b l) (i : Nat) : w.frozen? ⟨b,i,none⟩ = false:=Blk.frozen h i
theorem IntsB.set {w : World} {b : Nat} {l : List Int} (h : IntsB w b l) (i : Nat) (x : Int) : IntsB (w.setCell ⟨b,i,none⟩ (.int .i64 x)) b (l.set i x):=by
 have:=Blk.set h i (.int .i64 x)
 unfold IntsB
 rw [List.map_set]
 simpa using this
theorem IntsB.made {w : World} {b n : Nat} (h : Blk w b 3 (madeCells #[.int .i64 0] n)) : IntsB w b (List.replicate n 0):=by
 unfold IntsB
 have e : madeCells #[.int .i64 0] n = ((List.replicate n (0 : Int)).map (Value.int .i64)).toArray:=by
  apply Array.toList_inj.1
  rw [toList_madeCells_one]
  simp
 rw [← e];exact h
theorem MapII.count {w : World} {m k : Nat} {f : Int → Option Int} (h : MapII w m k f) {L : Nat} (hL : L ≤ 1000000) (hf : ∀ i,(f i).isSome = true → 0 ≤ i ∧ i < L) :
  ∃ D : DataW Unit,w.ownsMap Try.prog 3 (plainElem Try.prog 3) m k D ∧ Maps.size D = ((List.range L).filter fun (v : Nat) => (f (v : Int)).isSome).length ∧
   ∀ i : Int,(Lit.int .i64 i).wf = true → Maps.has D (.int .i64 i) = (f i).isSome ∧ D.atKey (.int .i64 i) (.lit (.int .i64 0)) = .lit (.int .i64 ((f i).getD 0)):=by
 obtain ⟨D,hD,hd⟩:=h
 refine ⟨D,hD,?_,hd⟩
 obtain ⟨keys,h1,h2,h3,_⟩:=ownsMap_keys hD
 rw [← h3]
 have hmem : ∀ i : Int,i ∈ keys ↔ i ∈ ((List.range L).filter fun (v : Nat) => (f (v : Int)).isSome).map (fun v : Nat => (v : Int)):=by
  intro i
  rw [h2]
  constructor
  ·rintro ⟨hw,hh⟩
   rw [(hd i hw).1] at hh
   obtain ⟨a,b⟩:=hf i hh
   refine List.mem_map.2 ⟨i.toNat,List.mem_filter.2 ⟨List.mem_range.2 (by omega),?_⟩,by omega⟩
   rw [show ((i.toNat : Nat) : Int) = i by omega]
   exact hh
  ·intro hi
   obtain ⟨v,hv,rfl⟩:=List.mem_map.1 hi
   obtain ⟨a,b⟩:=List.mem_filter.1 hv
   have hw : (Lit.int .i64 (v : Int)).wf = true:=WalkArith.wf_i64 (by have:=List.mem_range.1 a;omega)
   exact ⟨hw,by rw [(hd _ hw).1];exact b⟩
 have hnd : (((List.range L).filter fun (v : Nat) => (f (v : Int)).isSome).map (fun v : Nat => (v : Int))).Nodup:=by
  unfold List.Nodup
  rw [List.pairwise_map]
  exact ((List.nodup_range).filter _).imp (fun h e => h (by omega))
 have e1:=h1.length_le_of_subset (fun i hi => (hmem i).1 hi)
 have e2:=hnd.length_le_of_subset (fun i hi => (hmem i).2 hi)
 simp only [List.length_map] at e1 e2
 omega
namespace Un
def nth (l : List Int) (i : Int) : Int:=(l[i.toNat]?).getD 0
structure Dst where
 de : List Int
 mi : List Int
 dn : List Int
deriving DecidableEq
def inR (x : Int) : Bool:=decide (-1000000000000 ≤ x) && decide (x ≤ 1000000000000)
def relaxOk (n : Nat) (v : Int) (x : Int × Int) (d : Dst) : Bool:=
 (decide (0 ≤ x.1) && decide (x.1 < n) && decide (0 ≤ v) && decide (v < n)) && (inR x.2 && inR (nth d.de v) && inR (nth d.de x.1) && inR (nth d.mi x.1)) && (decide (d.de.length = n) && decide (d.mi.length = n) && decide (d.dn.length ≤ 900000))
def relax1 (v : Int) (x : Int × Int) (d : Dst) : Dst:=
 { de:=d.de.set x.1.toNat (max (nth d.de x.1) (x.2 + nth d.de v)),mi:=d.mi.set x.1.toNat (nth d.mi x.1 - 1),dn:=if nth d.mi x.1 - 1 = 0 then d.dn ++ [x.1] else d.dn }
def relax (n : Nat) (v : Int) : List (Int × Int) → Dst → Option Dst
 | [],d => some d
 | x :: l,d => if relaxOk n v x d = true then relax n v l (relax1 v x d) else none
def spread (n : Nat) (pl : Nat → List (Int × Int)) : Nat → Nat → Dst → Option Dst
 | 0,_,_ => none
 | f + 1,next,d => match d.dn[next]? with
  | none => if d.dn.length ≤ 1000000 then some d else none
  | some v => if 0 ≤ v ∧ v < n ∧ d.dn.length ≤ 1000000 then (relax n v (pl v.toNat) d).bind (spread n pl f (next + 1)) else none
theorem relax_len {n : Nat} {v : Int} : ∀ {l : List (Int × Int)} {d d' : Dst},relax n v l d = some d' → d'.de.length = d.de.length
 | [],d,d',h => by rw [relax] at h;cases h;rfl
 | x :: l,d,d',h => by
  rw [relax] at h
  split at h
  ·rw [relax_len h,relax1];simp
  ·cases h
theorem spread_len {n : Nat} {pl : Nat → List (Int × Int)} : ∀ {f next : Nat} {d d' : Dst},spread n pl f next d = some d' → d'.de.length = d.de.length
 | 0,_,_,_,h => by simp [spread] at h
 | f + 1,next,d,d',h => by
  rw [spread] at h
  split at h
  ·split at h
   ·cases h;rfl
   ·cases h
  ·split at h
   ·obtain ⟨d1,h1,h2⟩:=Option.bind_eq_some_iff.1 h
    rw [spread_len h2,relax_len h1]
   ·cases h
def depthsOf (s : List Ty) : Option (List Int × Bool):=
 (spread s.length (plAt s s.length) (s.length + 1) 0 ⟨depAt s s.length,misAt s s.length,doneAt s s.length⟩).map fun d => (d.de,d.dn.length == s.length)
def int' : Ty:=.mk 1 0 []
def box' (t : Ty) : Ty:=.mk 3 0 [t]
end Un
end Go.Proofs.Ytcdlnhfgehhkcaa
