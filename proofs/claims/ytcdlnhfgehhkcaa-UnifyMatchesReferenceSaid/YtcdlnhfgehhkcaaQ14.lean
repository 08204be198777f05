/- part of the proof -/
import Derived.Test.YtcdlnhfgehhkcaaQ13
import Derived.Deep.LoopGhost
set_option linter.unusedVariables false
set_option linter.unusedSimpArgs false
set_option linter.unusedSectionVars false
namespace Go.Proofs.Ytcdlnhfgehhkcaa
open Go.RowKit Go.Lib
open Un (kd nm ar size sizes above Bd over depth vars plOf plAt cnt misAt depAt depE doneAt)
theorem info_place : (Try.prog.info? 103).map (fun i => (i.zero,i.size,i.bytes)) = some (some (.agg #[.int .i64 0,.int .i64 0]),2,16):=by kernel_rfl
theorem info_places : (Try.prog.info? 101).map (fun i => (i.zero,i.size,i.bytes)) = some (some (.slice none 0 0),1,24):=by kernel_rfl
structure DepI (s : List Ty) (w : World) (A : Nat → Prop) (pl : Nat → List (Int × Int)) (mi de : List Int) (dl : List Int) (vd : Value) (wr : World) : Prop where
 rows : RowsV wr A (w.heap.size + 3) w.heap.size 101 103 ((List.range s.length).map pl)
 mis : IntsB wr (w.heap.size + 1) mi
 dep : IntsB wr (w.heap.size + 1 + 1) de
 done : OwnL wr (fun _ => False) (w.heap.size + 3) 3 1 dl.length (rowsQ qInt dl) vd
 fr : Fr [] w wr
 ap : ∀ g,vd.ownBlock = some g → A g
theorem DepI.keep0 {s : List Ty} {w : World} {A : Nat → Prop} {pl : Nat → List (Int × Int)} {mi de : List Int} {dl : List Int} {vd : Value} {wr wr' : World} (h : DepI s w A pl mi de dl vd wr) (hf : Fr [] wr wr') : DepI s w A pl mi de dl vd wr':=
 ⟨h.rows.keep0 hf,h.mis.keep hf (by simp),h.dep.keep hf (by simp),h.done.keep hf (by simp),h.fr.trans hf,h.ap⟩
theorem DepI.keep {s : List Ty} {w : World} {A : Nat → Prop} {pl : Nat → List (Int × Int)} {mi de : List Int} {dl : List Int} {vd : Value} {wr wr' : World} (h : DepI s w A pl mi de dl vd wr) {X : List Nat} (hf : Fr X wr wr') (hX : ∀ k ∈ X,A k ∧ w.heap.size + 3 ≤ k ∧ vd.ownBlock ≠ some k) : DepI s w A pl mi de dl vd wr':=
 ⟨h.rows.keep hf (fun k hk => ⟨by have:=(hX k hk).2.1;omega,.inr (hX k hk).1⟩),h.mis.keep hf (fun hx => by have:=(hX _ hx).2.1;omega),h.dep.keep hf (fun hx => by have:=(hX _ hx).2.1;omega),h.done.keepX hf (fun k hk => ⟨(hX k hk).2.2,fun h => h⟩),(h.fr.nil X).trans hf |>.sub (fun k hk => .inr (by have:=(hX k hk).2.1;omega)),h.ap⟩
theorem DepI.step {s : List Ty} {w : World} {A : Nat → Prop} {pl : Nat → List (Int × Int)} {dl : List Int} {vd : Value} {wr : World} {i : Nat} (h : DepI s w A pl (misAt s i) (depAt s i) dl vd wr) (hi : i < s.length) {x y : Int} (hx : x = cnt s i) (hy : y = depE s i) :
  DepI s w A pl (misAt s (i + 1)) (depAt s (i + 1)) dl vd ((wr.setCell ⟨w.heap.size + 1,i,none⟩ (.int .i64 x)).setCell ⟨w.heap.size + 1 + 1,i,none⟩ (.int .i64 y)):=by
 subst hx hy
 have hf : Fr [w.heap.size + 1,w.heap.size + 1 + 1] wr ((wr.setCell ⟨w.heap.size + 1,i,none⟩ (.int .i64 (cnt s i))).setCell ⟨w.heap.size + 1 + 1,i,none⟩ (.int .i64 (depE s i))):=((Fr.refl _ wr).setCell (.inl (by simp)) _).setCell (.inl (by simp)) _
 have h1 : Fr [w.heap.size + 1] wr (wr.setCell ⟨w.heap.size + 1,i,none⟩ (.int .i64 (cnt s i))):=(Fr.refl _ wr).setCell (.inl (by simp)) _
 have h2 : Fr [w.heap.size + 1 + 1] (wr.setCell ⟨w.heap.size + 1,i,none⟩ (.int .i64 (cnt s i))) ((wr.setCell ⟨w.heap.size + 1,i,none⟩ (.int .i64 (cnt s i))).setCell ⟨w.heap.size + 1 + 1,i,none⟩ (.int .i64 (depE s i))):=(Fr.refl _ _).setCell (.inl (by simp)) _
 refine ⟨h.rows.keep hf (fun k hk => by simp at hk;omega),?_,?_,h.done.keepX hf (fun k hk => ⟨fun e => by have:=(h.done.own k e).1;simp at hk;omega,fun h => h⟩),((h.fr.nil _).trans hf).sub (fun k hk => .inr (by simp at hk;omega)),h.ap⟩
 ·rw [← Un.misAt_succ s hi]
  exact (h.mis.set i _).keep h2 (by simp)
 ·rw [← Un.depAt_succ s hi]
  exact (h.dep.keep h1 (by simp)).set i _
theorem doneAt_len (s : List Ty) : ∀ i,(doneAt s i).length ≤ i
 | 0 => by simp [doneAt]
 | i + 1 => by
  have h1:=doneAt_len s i
  rw [doneAt]
  split
  ·simp;omega
  ·omega
theorem plAt_len (s : List Ty) (v : Nat) : ∀ i,(plAt s i v).length ≤ i
 | 0 => by simp [plAt]
 | i + 1 => by
  rw [plAt,List.length_append]
  have h1:=plAt_len s v i
  have h2 : (plOf s i v).length ≤ 1:=by unfold plOf;split <;> simp
  omega
theorem places_set {n j : Nat} {pl pl' : Nat → List (Int × Int)} {l : List (Int × Int)} (hj : j < n) (h1 : pl' j = l) (h2 : ∀ v,v < n → v ≠ j → pl' v = pl v) : ((List.range n).map pl).set j l = (List.range n).map pl':=by
 refine List.ext_getElem? fun u => ?_
 by_cases hu : u < n
 ·by_cases e : u = j
  ·subst e
   rw [List.getElem?_set_self (by simpa using hu)]
   simp [hu,h1]
  ·rw [List.getElem?_set_ne (by omega)]
   simp [hu,h2 u hu e]
 ·rw [List.getElem?_eq_none (by simp;omega),List.getElem?_eq_none (by simp;omega)]
theorem ownl_el {α : Type} {f : α → Q} {w : World} {N : Nat → Prop} {B E s : Nat} {l : List α} {v : Value} (hs : ∀ a,(f a).ln = s) (h : OwnL w N B E s l.length (rowsQ f l) v) {i : Nat} {a : α} (hi : l[i]? = some a) :
  ∃ g cap ds,v = .slice (some ⟨g,0,none⟩) l.length cap ∧ g < w.heap.size ∧ B ≤ g ∧ l.length ≤ cap ∧ cap ≤ maxLen ∧ InN w N (f a) ds ∧ ds.length = s ∧ ∀ j,j < s → w.cell? ⟨g,i * s + j,none⟩ = ds[j]?:=by
 have hil : i < l.length:=(List.getElem?_eq_some_iff.1 hi).1
 obtain ⟨xs,h1,hq⟩:=h
 rcases h1.2 with ⟨_,h0⟩ | ⟨g,cap,cur,rfl,hB,hg,c1,c2,c3,c4⟩
 ·omega
 ·obtain ⟨ds,k1,k2,k3⟩:=InN.get hs l xs i a hq hi
  refine ⟨g,cap,ds,rfl,(Array.getElem?_eq_some_iff.1 hg).1,hB,c1,c2,k1.weak (fun _ _ h => h.1),k2,fun j hj => ?_⟩
  have hb : i * s + j < l.length * s:=by
   have h5 : (i + 1) * s ≤ l.length * s:=Nat.mul_le_mul_right _ hil
   rw [Nat.succ_mul] at h5
   omega
  rw [(show w.cell? ⟨g,i * s + j,none⟩ = cur[i * s + j]? from Blk.cell hg _),← k3 j hj,← c4,List.getElem?_take,if_pos hb]
  simp
theorem DepI.setDep {s : List Ty} {w : World} {A : Nat → Prop} {pl : Nat → List (Int × Int)} {mi de : List Int} {dl : List Int} {vd : Value} {wr : World} (h : DepI s w A pl mi de dl vd wr) (e : Nat) (y : Int) :
  DepI s w A pl mi (de.set e y) dl vd (wr.setCell ⟨w.heap.size + 1 + 1,e,none⟩ (.int .i64 y)):=by
 have hf : Fr [w.heap.size + 1 + 1] wr (wr.setCell ⟨w.heap.size + 1 + 1,e,none⟩ (.int .i64 y)):=(Fr.refl _ wr).setCell (.inl (by simp)) _
 exact ⟨h.rows.keep hf (fun k hk => by simp at hk;omega),h.mis.keep hf (by simp),h.dep.set e _,h.done.keepX hf (fun k hk => ⟨fun e => by have:=(h.done.own k e).1;simp at hk;omega,fun h => h⟩),((h.fr.nil _).trans hf).sub (fun k hk => .inr (by simp at hk;omega)),h.ap⟩
theorem DepI.setMis {s : List Ty} {w : World} {A : Nat → Prop} {pl : Nat → List (Int × Int)} {mi de : List Int} {dl : List Int} {vd : Value} {wr : World} (h : DepI s w A pl mi de dl vd wr) (e : Nat) (x : Int) :
  DepI s w A pl (mi.set e x) de dl vd (wr.setCell ⟨w.heap.size + 1,e,none⟩ (.int .i64 x)):=by
 have hf : Fr [w.heap.size + 1] wr (wr.setCell ⟨w.heap.size + 1,e,none⟩ (.int .i64 x)):=(Fr.refl _ wr).setCell (.inl (by simp)) _
 exact ⟨h.rows.keep hf (fun k hk => by simp at hk;omega),h.mis.set e _,h.dep.keep hf (by simp),h.done.keepX hf (fun k hk => ⟨fun e => by have:=(h.done.own k e).1;simp at hk;omega,fun h => h⟩),((h.fr.nil _).trans hf).sub (fun k hk => .inr (by simp at hk;omega)),h.ap⟩
def DepthsP (r : List Int × Bool) (n : Nat) (w : World) (e : Ending) (w' : World) : Prop:=
 ∃ g,e = .returned (.tuple #[.slice (some ⟨g,0,none⟩) n n,.bool r.2]) ∧ Fr [] w w' ∧ r.1.length = n ∧ w.heap.size ≤ g ∧ IntsB w' g r.1
set_option maxRecDepth 100000 in
set_option maxHeartbeats 3200000 in
theorem depthsof_any (N : Nat → Prop) (s : List Ty) (v : Value) (w : World) (hv : TysV w N s v) (hl : s.length ≤ 1000) (hs : ∀ t ∈ s,size t ≤ 90000) (ho : ∀ t ∈ s,Un.vin s.length t = true) (r : List Int × Bool) (hr : Un.depthsOf s = some r) :
  Calls Try.prog 62 #[v] w (DepthsP r s.length w):=by
 obtain ⟨dz,hdz,hrz⟩ : ∃ dz,Un.spread s.length (plAt s s.length) (s.length + 1) 0 ⟨depAt s s.length,misAt s s.length,doneAt s s.length⟩ = some dz ∧ r = (dz.de,dz.dn.length == s.length):=by
  unfold Un.depthsOf at hr
  obtain ⟨dz,h1,h2⟩:=Option.map_eq_some_iff.1 hr
  exact ⟨dz,h1,h2.symm⟩
 have HR:=hid hdz
 have HRZ:=hid hrz
 clear hr hdz hrz
 obtain ⟨ps,cp,rfl⟩:=hv.shape
 have HV:=hid hv
 have HS:=hid hs
 have HO:=hid ho
 obtain ⟨i0,hi0,iz0,iz1,iz2⟩:=info_parts info_int
 obtain ⟨j0,hj0,jz0,jz1,jz2⟩:=info_parts info_places
 obtain ⟨k0,hk0,kz0,kz1,kz2⟩:=info_parts info_place
 have HK0:=hid hk0
 have HII0:=hid hi0
 obtain ⟨n,hn⟩ : ∃ n,n = s.length:=⟨_,rfl⟩
 have HN:=hid hn
 rw [← hn] at hl ⊢
 have hms : ∀ w1 : World,(Instr.makeSlice 28 (.int .i64 (n : Int)) (.int .i64 (n : Int))).run Try.prog w1 = .ok (.slice (some ⟨w1.heap.size,0,none⟩) n n) (w1.alloc (.cells (madeCells #[.int .i64 0] n) 3)):=fun w1 => by
  have:=run_makeSlice w1 28 3 i0 _ Try.underlying28 hi0 iz0 .i64 .i64 n n (by omega) (Int.le_refl _) (by rw [iz1];simp;omega) (by rw [iz2];omega) (by omega)
  rw [iz1] at this
  simpa [Value.cells] using this
 have hms2 : ∀ w1 : World,(Instr.makeSlice 98 (.int .i64 (n : Int)) (.int .i64 (n : Int))).run Try.prog w1 = .ok (.slice (some ⟨w1.heap.size,0,none⟩) n n) (w1.alloc (.cells (madeCells #[.slice none 0 0] n) 101)):=fun w1 => by
  have:=run_makeSlice w1 98 101 j0 _ Try.underlying98 hj0 jz0 .i64 .i64 n n (by omega) (Int.le_refl _) (by rw [jz1];simp;omega) (by rw [jz2];omega) (by omega)
  rw [jz1] at this
  simpa [Value.cells] using this
 obtain ⟨w1,hw1⟩ : ∃ w1,w1 = ((w.alloc (.cells (madeCells #[.slice none 0 0] n) 101)).alloc (.cells (madeCells #[.int .i64 0] n) 3)).alloc (.cells (madeCells #[.int .i64 0] n) 3):=⟨_,rfl⟩
 have HI0 : Hid (DepI s w (fun g => (Value.slice none 0 0).ownBlock = some g) (plAt s 0) (misAt s 0) (depAt s 0) (doneAt s 0) (.slice none 0 0) w1):=hid (by
  rw [hw1]
  have e1 : ∀ f : Nat → Int,((List.range s.length).map fun e => if e < 0 then f e else 0) = List.replicate s.length 0:=fun f => by
   refine List.ext_getElem? fun j => ?_
   by_cases hj : j < s.length
   ·simp [hj]
   ·rw [List.getElem?_eq_none (by simp;omega),List.getElem?_eq_none (by simp;omega)]
  refine ⟨?_,?_,?_,OwnL.nil _ _ _ _ _,(((Fr.refl _ _).alloc _).alloc _).alloc _,fun g h => h⟩
  ·have e2 : (List.range s.length).map (plAt s 0) = List.replicate s.length []:=by
    refine List.ext_getElem? fun j => ?_
    by_cases hj : j < s.length
    ·simp [hj,plAt]
    ·rw [List.getElem?_eq_none (by simp;omega),List.getElem?_eq_none (by simp;omega)]
   rw [e2,← hn]
   exact RowsV.made (by omega) (((Blk.new _ _ _).alloc _).alloc _)
  ·unfold misAt
   rw [e1,← hn]
   exact IntsB.made ((Blk.new_at (by simp)).alloc _)
  ·unfold depAt
   rw [e1,← hn]
   exact IntsB.made (Blk.new_at (by simp)))
 clear hv hs ho hk0 hi0 hj0 jz0 jz1 jz2 hn
 go_enter Try.func62,Try.ntmps62
 go_wp2_with fail
 rw [← hw1]
 clear hw1 hms hms2
 go_loopw [6,27] (fun vd x wr => ∃ i : Nat,x = .int .i64 i ∧ i ≤ n ∧ Hid (DepI s w (fun g => vd.ownBlock = some g) (plAt s i) (misAt s i) (depAt s i) (doneAt s i) vd wr)) (fun _ x _ => n - (RowKit.intOf x).toNat)
 case atStart => exact ⟨0,rfl,Nat.zero_le _,HI0⟩
 case round =>
  obtain ⟨i,rfl,hi,HI⟩:=hrel
  clear HI0
  by_cases hlt : i < n
  ·have hd2 : decide ((i : Int) < (n : Int)) = true:=by simp;omega
   have hd3 : decide (i < n) = true:=by simpa using hlt
   have his : i < s.length:=by have:=HN.out;omega
   obtain ⟨bb,o,rfl,hat⟩ : ∃ bb o,ps = some ⟨bb,o,none⟩ ∧ TysAt w N s bb o:=by
    rcases HV.out.cases with ⟨rfl,_⟩ | ⟨_,bb,o,cap,heq,_,_,hat⟩
    ·simp at his
    ·simp only [Value.slice.injEq] at heq
     exact ⟨bb,o,heq.1,hat⟩
   obtain ⟨p1,c1,k1,hb',g0',g1',g2'⟩:=hat.el (Fr.refl [] w) (by simp) (List.getElem?_eq_getElem his)
   have g0:=(HI.out.fr.cell hb' (by simp) (o + i * 3)).trans g0'
   have g1:=(HI.out.fr.cell hb' (by simp) (o + i * 3 + 1)).trans g1'
   have g2:=(HI.out.fr.cell hb' (by simp) (o + i * 3 + 2)).trans g2'
   have hb:=Nat.lt_of_lt_of_le hb' HI.out.fr.size
   clear g0' g1' g2' hb'
   obtain ⟨t,ht⟩ : ∃ t,t = s[i]:=⟨_,rfl⟩
   have HMT : Hid (t ∈ s):=hid (by rw [ht];exact List.getElem_mem _)
   have HST : Hid (s[i]? = some t):=hid (by rw [ht];exact List.getElem?_eq_getElem his)
   rw [← ht] at g0 g1 g2 k1
   have K1:=hid k1
   have HIS:=hid his
   clear k1 hat ht his
   go_wp2_with fail
   have hf0 : Fr [] wr (wr.alloc (.cells #[.int .i64 (kd t),.int .i64 (nm t),.slice p1 (ar t).length c1] 24)):=(Fr.refl _ _).alloc _
   have hb0 : Blk (wr.alloc (.cells #[.int .i64 (kd t),.int .i64 (nm t),.slice p1 (ar t).length c1] 24)) wr.heap.size 24 #[.int .i64 (kd t),.int .i64 (nm t),.slice p1 (ar t).length c1]:=Blk.new _ _ _
   refine (variablesof_any N t s.length (by have:=HN.out;omega) (HS.out t HMT.out) (HO.out t HMT.out) _ _ (K1.out.keep0 (HI.out.fr.trans hf0))).mono ?_
   rintro e w2 ⟨m,rfl,hm,hM,hB,hf⟩
   have hvx : vars s i = above t (fun _ => none) 0:=by unfold vars;rw [HST.out]
   rw [← hvx] at hM hB
   have hrg : ∀ j,(vars s i j).isSome = true → 0 ≤ j ∧ j < s.length:=by
    rw [hvx]
    exact Un.above_range s.length t _ 0 (HO.out t HMT.out) (fun j h => by cases h)
   obtain ⟨D,hD,hsz,hd⟩:=hM.count (L:=s.length) (by have:=HN.out;omega) hrg
   have HD:=hid hd
   have HRG:=hid hrg
   have HSZ:=hid hsz
   have HDD:=hid hD
   obtain ⟨wo,hwo⟩ : ∃ wo : World,wo = wr:=⟨_,rfl⟩
   subst hwo
   have hz0 : wo.heap.size < w2.heap.size:=Nat.lt_of_lt_of_le (by simp) hf.size
   have hmz : m < w2.heap.size:=hD.lt
   have hwz : w.heap.size + 1 + 1 < wo.heap.size:=HI.out.dep.lt
   obtain ⟨A,hA⟩ : ∃ A : Nat → Prop,A = fun g => u6.ownBlock = some g ∨ g = wo.heap.size ∨ g = m ∨ g = w2.heap.size:=⟨_,rfl⟩
   have HAD:=hid hA
   have hdo : ∀ g,u6.ownBlock = some g → g < wo.heap.size:=fun g hg => (HI.out.done.own g hg).2
   have HDO:=hid hdo
   have hm0 : wo.heap.size < m:=by have:=hm;simp at this;omega
   have HI2 : Hid (DepI s w A (plAt s i) (misAt s i) (depAt s i) (doneAt s i) u6 w2):=hid (by
    have h1:=HI.out
    refine ⟨(h1.rows.apart (fun g hg => ?_)).keep0 (hf0.trans hf),h1.mis.keep (hf0.trans hf) (by simp),h1.dep.keep (hf0.trans hf) (by simp),h1.done.keep (hf0.trans hf) (by simp),h1.fr.trans (hf0.trans hf),fun g hg => by rw [hA];exact .inl hg⟩
    rw [hA] at hg
    rcases hg with hg | rfl | rfl | rfl
    ·exact .inl hg
    ·exact .inr (Nat.le_refl _)
    ·exact .inr (by omega)
    ·exact .inr (by omega))
   have HBX2:=hid (hb0.keep hf (by simp))
   obtain ⟨pd,cd,hu6⟩:=HI.out.done.shape
   clear hf0 hb0 hf hM hB hD hd hsz hrg hvx hA hdo hm g0 g1 g2 hb HI
   go_wp2_with (at_range;refine wpList_range_own _ rfl _ 99 rfl 3 3 keyed_int Try.underlying99 _ m (size t) _ rfl HDD.out ?_;intro w3 hrg0 hg0 hs0)
   go_frame
   have HR0:=hid hrg0
   have hf23 : Fr [] w2 w3:=(Fr.refl [] w2).grown hg0 (fun k hk => by cases hk)
   have HI3:=hid (HI2.out.keep0 hf23)
   have HBX3:=hid (HBX2.out.keep hf23 (by simp))
   clear hrg0 hg0 hf23 HI2 HBX2
   go_loopw [36] (fun _ wr2 => ∃ (left : Lit → Bool) (c : Nat),Hid (wr2.ranges Try.prog 3 (plainElem Try.prog 3) m w2.heap.size (size t) D left c) ∧ Hid (DepI s w A (fun v => plAt s i v ++ if left (.int .i64 v) then [] else plOf s i v) (misAt s i) (depAt s i) (doneAt s i) u6 wr2) ∧ Hid (Blk wr2 wo.heap.size 24 #[.int .i64 (kd t),.int .i64 (nm t),.slice p1 (ar t).length c1])) (fun _ wr2 => wr2.rangeLeft m w2.heap.size)
   case atStart =>
    refine ⟨_,_,HR0,?_,HBX3⟩
    have h1:=HI3.out
    have e : (List.range s.length).map (fun v : Nat => plAt s i v ++ if Maps.has D (.int .i64 v) then [] else plOf s i v) = (List.range s.length).map (plAt s i):=by
     refine List.map_congr_left fun v hv => ?_
     have hv2:=List.mem_range.1 hv
     rw [(HD.out v (WalkArith.wf_i64 (by have:=HN.out;omega))).1]
     unfold plOf
     cases vars s i v <;> simp
    exact hid ⟨by rw [e];exact h1.rows,h1.mis,h1.dep,h1.done,h1.fr,h1.ap⟩
   case round =>
    obtain ⟨left,c,HRN,HI4,HBX4⟩:=hrel
    clear HI3 HBX3 HR0
    go_wp2_with (at_next;refine wpList_next_ranges_ii _ rfl _ rfl 3 3 .i64 .i64 keyed_int Try.underlying3 Try.underlying3 m w2.heap.size (size t) _ _ _ rfl HRN.out ?_ ?_)
    ·intro hc0 hl0
     have HI6 : Hid (DepI s w A (plAt s (i + 1)) (misAt s i) (depAt s i) (doneAt s i) u6 wr):=hid (by
      have h1:=HI4.out
      have e : (List.range s.length).map (fun v : Nat => plAt s i v ++ if left (.int .i64 v) then [] else plOf s i v) = (List.range s.length).map (plAt s (i + 1)):=by
       refine List.map_congr_left fun v _ => ?_
       rw [hl0,plAt]
       rfl
      exact ⟨by rw [← e];exact h1.rows,h1.mis,h1.dep,h1.done,h1.fr,h1.ap⟩)
     have his:=HIS.out
     have m0 : (misAt s i)[i]? = some 0:=by unfold misAt;simp [his]
     have d0 : (depAt s i)[i]? = some 0:=by unfold depAt;simp [his]
     have x0 : wr.cell? ⟨wo.heap.size,0,none⟩ = some (.int .i64 (kd t)):=HBX4.out.cell 0
     have x1 : wr.cell? ⟨wo.heap.size,1,none⟩ = some (.int .i64 (nm t)):=HBX4.out.cell 1
     have x2 : wr.cell? ⟨wo.heap.size,2,none⟩ = some (.slice p1 (ar t).length c1):=HBX4.out.cell 2
     have lx : wo.heap.size < wr.heap.size:=HBX4.out.lt
     have HOWN:=hid HRN.out.owns
     have M0:=hid m0
     have D0:=hid d0
     clear m0 d0 HI4 hl0 hc0 his
     go_wp2_with (at_len;go_loud (refine wpList_len_own _ rfl _ 99 rfl 3 3 Try.underlying99 _ m (size t) _ rfl HOWN.out ?_))
     refine (depthof_any N (size t) t (Nat.le_refl _) (by have:=HS.out t HMT.out;omega) _ wr (K1.out.keep0 HI6.out.fr)).mono ?_
     rintro e w5 ⟨rfl,hf5⟩
     have HI7:=hid (HI6.out.keep0 hf5)
     have e1 : ((Maps.size D : Nat) : Int) = (cnt s i : Int):=by
      have h1:=HSZ.out
      rw [h1]
      rfl
     have e2 : ((depth t : Nat) : Int) = (depE s i : Int):=by unfold depE;rw [HST.out]
     have E1:=hid e1
     have E2:=hid e2
     clear hf5 x0 x1 x2 lx e1 e2 HI6 HBX4 HRN HOWN
     have q0:=HI7.out.mis.el M0.out
     have q1:=HI7.out.dep.el D0.out
     have q2:=HI7.out.mis.frozen i
     have q3:=HI7.out.dep.frozen i
     have q4:=HI7.out.mis.lt
     have q5:=HI7.out.dep.lt
     have HI8:=hid (HI7.out.step HIS.out E1.out E2.out)
     have hdl:=doneAt_len s i
     subst hu6
     by_cases hz : Maps.size D = 0
     ·have hz2 : cnt s i = 0:=by have:=E1.out;omega
      have hz3 : (((Maps.size D : Nat) : Int) == 0) = true:=by simp [hz]
      have hz4 : (Maps.size D == 0) = true:=by simp [hz]
      obtain ⟨g1,g2,g3,g4⟩:=ownl_ready2 (news:=[.int .i64 (i : Int)]) (qb:=qInt (i : Int)) HI8.out.done (by simp [World.setCell];omega) (InN.mk_int (InN.mk_nil _ _)) 3
      have hsz5 : ((w5.setCell ⟨w.heap.size + 1,i,none⟩ (.int .i64 ((Maps.size D : Nat) : Int))).setCell ⟨w.heap.size + 1 + 1,i,none⟩ (.int .i64 ((depth t : Nat) : Int))).heap.size = w5.heap.size:=by simp [World.setCell]
      rw [hsz5] at g2
      have G1:=hid g1
      have G2:=hid g2
      have G3:=hid g3
      have HZ2:=hid hz2
      clear g1 g2 g3 hz hz2 hsz5
      go_wp2_with (at_builtin;go_loud (refine wpList_append_ownl _ rfl _ _ 28 rfl (fun _ => False) (w.heap.size + 3) 3 i0 _ 1 8 Try.underlying28 HII0.out iz0 iz1 iz2 rfl (by decide) _ (doneAt s i).length 1 (rowsQ qInt (doneAt s i)) (qInt (i : Int)) rfl G1.out ⟨w5.heap.size,0,none⟩ 1 [.int .i64 (i : Int)] rfl rfl G2.out G3.out (by omega) (by decide) g4 ?_;intro v' w8 hL8 hg8 hv8;obtain ⟨p8,c8,rfl⟩:=hL8.shape;have HL8:=hid hL8;have HG8:=hid hg8;have HV8:=hid hv8;clear hL8 hg8 hv8))
      go_roundw
      case rel =>
       refine ⟨i + 1,by go_num,by omega,hid ?_⟩
       have h1:=HI8.out.keep0 ((Fr.refl [] _).alloc (.cells #[.int .i64 (i : Int)] 3))
       have hfr : Fr (Value.slice pd (doneAt s i).length cd).ownBlock.toList (((w5.setCell ⟨w.heap.size + 1,i,none⟩ (.int .i64 ((Maps.size D : Nat) : Int))).setCell ⟨w.heap.size + 1 + 1,i,none⟩ (.int .i64 ((depth t : Nat) : Int))).alloc (.cells #[.int .i64 (i : Int)] 3)) w8:=⟨HG8.out.os,HG8.out.tape,HG8.out.output,HG8.out.size,fun k hk hx => HG8.out.block k hk (fun e => hx (by simp;exact e.symm))⟩
       have hown : ∀ k ∈ (Value.slice pd (doneAt s i).length cd).ownBlock.toList,(Value.slice pd (doneAt s i).length cd).ownBlock = some k ∧ w.heap.size + 3 ≤ k:=fun k hk => by
        have h2 : (Value.slice pd (doneAt s i).length cd).ownBlock = some k:=by simpa using hk
        exact ⟨h2,(h1.done.own k h2).1⟩
       have h3:=h1.rows.apart (A':=fun g => (Value.slice p8 ((doneAt s i).length + 1) c8).ownBlock = some g ∨ (Value.slice pd (doneAt s i).length cd).ownBlock = some g) (fun g hg => by
        rcases hg with hg | hg
        ·rcases HV8.out g hg with h | h
         ·exact .inr h
         ·exact .inl (h1.ap g h)
        ·exact .inl (h1.ap g hg))
       have h4:=(h3.keep hfr (fun k hk => ⟨by have:=(hown k hk).2;omega,.inr (.inr (hown k hk).1)⟩)).apart (A':=fun g => (Value.slice p8 ((doneAt s i).length + 1) c8).ownBlock = some g) (fun g hg => .inl (.inl hg))
       have h5:=HL8.out
       rw [doneAt,if_pos HZ2.out]
       exact ⟨h4,h1.mis.keep hfr (fun hx => by have:=(hown _ hx).2;omega),h1.dep.keep hfr (fun hx => by have:=(hown _ hx).2;omega),by rw [List.length_append,rowsQ_snoc];exact h5,((h1.fr.nil _).trans hfr).sub (fun k hk => .inr (by have:=(hown k hk).2;omega)),fun g hg => hg⟩
      case measure => simp [RowKit.intOf];omega
     ·have hz2 : ¬ cnt s i = 0:=by have:=E1.out;omega
      have hz3 : (((Maps.size D : Nat) : Int) == 0) = false:=by simp;omega
      have hz4 : (Maps.size D == 0) = false:=by simp;omega
      have HZ2:=hid hz2
      clear hz hz2
      go_wp2_with fail
      go_roundw
      case rel =>
       refine ⟨i + 1,by go_num,by omega,hid ?_⟩
       have h1:=HI8.out
       rw [doneAt,if_neg HZ2.out]
       exact ⟨h1.rows.apart (fun g hg => .inl (h1.ap g hg)),h1.mis,h1.dep,h1.done,h1.fr,fun g hg => hg⟩
      case measure => simp [RowKit.intOf];omega
    ·intro x y w4 c4 hwx hwy hlx hat hrg4 hlt4 hg4 hs4 hen
     obtain ⟨hx1,hx2⟩:=HD.out x hwx
     have hsome : vars s i x = some y:=by
      cases hv : vars s i x with
      | none =>
       rw [hv] at hx1
       have h1:=hat .nil
       rw [Maps.atKey_of_not_has hx1] at h1
       cases h1
      | some y' =>
       rw [hv,hat] at hx2
       simp at hx2
       rw [hx2]
     obtain ⟨hx3,hx4⟩:=HRG.out x (by rw [hsome];rfl)
     obtain ⟨j,rfl⟩ : ∃ j : Nat,x = j:=⟨x.toNat,by omega⟩
     have hjn : j < n:=by have:=HN.out;omega
     have hd3 : decide (j < n) = true:=by simpa using hjn
     have hfr4 : Fr [w2.heap.size] wr w4:=(Fr.refl _ wr).grown hg4 (fun k hk => by cases hk;exact .inl (by simp))
     have HI5:=hid (HI4.out.keep hfr4 (fun k hk => by
      simp only [List.mem_singleton] at hk
      subst hk
      refine ⟨by rw [HAD.out];exact .inr (.inr (.inr rfl)),by omega,fun e => by have:=HDO.out _ e;omega⟩))
     have HBX5:=hid (HBX4.out.keep hfr4 (by simp;omega))
     have hjs : j < s.length:=by have:=HN.out;omega
     have hpl : ((List.range s.length).map (fun v : Nat => plAt s i v ++ if left (.int .i64 v) then [] else plOf s i v))[j]? = some (plAt s i j):=by
      simp [hjs,hlx]
     obtain ⟨pr,cr,r0,r1,r2,r3⟩:=HI5.out.rows.el hpl
     have hpn:=plAt_len s j i
     have HR1:=hid r1
     have HR0':=hid r0
     have HR3:=hid r3
     have HR2:=hid r2
     have HPL:=hid hpl
     have hwz5 : w.heap.size + 3 ≤ w4.heap.size:=by have:=HI5.out.dep.lt;omega
     obtain ⟨g1,g2,g3,g4⟩:=ownl_ready2 (news:=[.int .i64 (i : Int),.int .i64 y]) (qb:=qPair ((i : Int),y)) r1 hwz5 (InN.mk_int (InN.mk_int (InN.mk_nil _ _))) 103
     have G1:=hid g1
     have G2:=hid g2
     have G3:=hid g3
     have l5 : w.heap.size < w4.heap.size:=by omega
     have HSO:=hid hsome
     have HRG4:=hid hrg4
     clear r1 r2 r3 g1 g2 g3 hat hx1 hx2 hsome hpl hrg4 hg4 hfr4 HI4 HBX4 hs4
     go_wp2_with (at_builtin;go_loud (refine wpList_append_ownl _ rfl _ _ 101 rfl (fun _ => False) (w.heap.size + 3) 103 k0 _ 2 16 Try.underlying101 HK0.out kz0 kz1 kz2 rfl (by decide) _ (plAt s i j).length 1 (rowsQ qPair (plAt s i j)) (qPair ((i : Int),y)) rfl G1.out ⟨w4.heap.size,0,none⟩ 1 [.int .i64 (i : Int),.int .i64 y] rfl rfl G2.out G3.out (by omega) (by decide) g4 ?_;intro v' w5 hL5 hg5 hv5;obtain ⟨p5,c5,rfl⟩:=hL5.shape;have HL5:=hid hL5;have HG5:=hid hg5;have HV5:=hid hv5;have hP5 : w5.cell? ⟨w.heap.size,j,none⟩ = some (.slice pr (plAt s i j).length cr):=(by rw [World.cell?_of_block (w:=w4.alloc (.cells #[.int .i64 (i : Int),.int .i64 y] 103)) (hg5.block w.heap.size (by simp;omega) (fun e => by have h1:=(HR1.out.own w.heap.size e.symm).1;omega))];rw [World.cell?_of_block (w:=w4) (Below.heap_alloc _ _ _ (by omega))];exact HR0'.out);have hz5 : w5.frozen? ⟨w.heap.size,j,none⟩ = false:=(by rw [World.frozen?_of_block (w:=w4.alloc (.cells #[.int .i64 (i : Int),.int .i64 y] 103)) (hg5.block w.heap.size (by simp;omega) (fun e => by have h1:=(HR1.out.own w.heap.size e.symm).1;omega))];rw [World.frozen?_of_block (w:=w4) (Below.heap_alloc _ _ _ (by omega))];exact HR2.out j);have hl5 : w.heap.size < w5.heap.size:=Nat.lt_of_lt_of_le (by simp;omega) hg5.size;clear hL5 hg5 hv5))
     have hown : ∀ g,(Value.slice pr (plAt s i j).length cr).ownBlock = some g → w.heap.size + 3 ≤ g ∧ g < w4.heap.size:=HR1.out.own
     have hAm : A m:=by rw [HAD.out];exact .inr (.inr (.inl rfl))
     have hAR : A w2.heap.size:=by rw [HAD.out];exact .inr (.inr (.inr rfl))
     have hAx : A wo.heap.size:=by rw [HAD.out];exact .inr (.inl rfl)
     have hRl:=HRG4.out.lt
     have hfa : Fr (Value.slice pr (plAt s i j).length cr).ownBlock.toList (w4.alloc (.cells #[.int .i64 (i : Int),.int .i64 y] 103)) w5:=⟨HG5.out.os,HG5.out.tape,HG5.out.output,HG5.out.size,fun k hk hx => HG5.out.block k hk (fun e => hx (by simp;exact e.symm))⟩
     have hfb : Fr (w.heap.size :: (Value.slice pr (plAt s i j).length cr).ownBlock.toList) w4 (w5.setCell ⟨w.heap.size,j,none⟩ (.slice p5 ((plAt s i j).length + 1) c5)):=
      ((((Fr.refl [] w4).alloc _).nil _).trans (hfa.more w.heap.size)).trans ((Fr.refl _ w5).setCell (.inl (by simp)) _)
     have hX : ∀ k ∈ w.heap.size :: (Value.slice pr (plAt s i j).length cr).ownBlock.toList,k = w.heap.size ∨ (¬ A k ∧ w.heap.size + 3 ≤ k):=by
      intro k hk
      rcases List.mem_cons.1 hk with h | h
      ·exact .inl h
      ·have h2 : (Value.slice pr (plAt s i j).length cr).ownBlock = some k:=by simpa using h
       exact .inr ⟨HR3.out k h2,(hown k h2).1⟩
     have hrg7:=((HRG4.out.alloc (.cells #[.int .i64 (i : Int),.int .i64 y] 103)).kept HG5.out (fun e => HR3.out m e.symm hAm) (fun e => HR3.out _ e.symm hAR)).kept (row:=some w.heap.size) (((Fr.refl [w.heap.size] w5).setCell (p:=⟨w.heap.size,j,none⟩) (.inl (by simp)) (.slice p5 ((plAt s i j).length + 1) c5)).grown1 (fun k hk => by simp only [List.mem_singleton] at hk;rw [hk])) (fun e => by have h1:=Option.some.inj e;omega) (fun e => by have h1:=Option.some.inj e;omega)
     have hL5:=HL5.out
     have hrows:=RowsV.grown (HI5.out.rows.keep0 ((Fr.refl [] w4).alloc (.cells #[.int .i64 (i : Int),.int .i64 y] 103))) (by simp;omega) HPL.out (by rw [World.cell?_of_block (w:=w4) (Below.heap_alloc _ _ _ (by omega))];exact HR0'.out) (l':=plAt s i j ++ [((i : Int),y)]) (c2:=.slice p5 ((plAt s i j).length + 1) c5) HG5.out (by rw [List.length_append,rowsQ_snoc];exact hL5) HV5.out (fun k hk => by
      rw [HAD.out] at hk
      have h1 : ∀ g,u6.ownBlock = some g → g < wo.heap.size:=HDO.out
      have hsz : (w4.alloc (.cells #[.int .i64 (i : Int),.int .i64 y] 103)).heap.size = w4.heap.size + 1:=by simp
      rcases hk with hk | rfl | rfl | rfl
      ·have:=h1 k hk;omega
      ·omega
      ·omega
      ·omega)
     rw [places_set (pl':=fun v : Nat => plAt s i v ++ if (left (.int .i64 v) && !(Lit.int .i64 (v : Int)).sameKey (.int .i64 (j : Int))) then [] else plOf s i v) (by omega) (by
      have hsk : (Lit.int .i64 (j : Int)).sameKey (.int .i64 (j : Int)) = true:=WideAt.sameKey_self trivial
      simp only [hsk,Bool.not_true,Bool.and_false]
      have ho : plOf s i j = [((i : Int),y)]:=by unfold plOf;rw [HSO.out]
      rw [ho]
      rfl) (fun v _ hne => by
      have hsk : (Lit.int .i64 (v : Int)).sameKey (.int .i64 (j : Int)) = false:=Maps.sameKey_ne (by simp;omega)
      simp only [hsk,Bool.not_false,Bool.and_true])] at hrows
     go_roundw
     case rel =>
      refine ⟨fun z => left z && !z.sameKey (.int .i64 (j : Int)),c4,hid hrg7,hid ⟨hrows,HI5.out.mis.keep hfb (fun hx => ?_),HI5.out.dep.keep hfb (fun hx => ?_),HI5.out.done.keepX hfb (fun k hk => ⟨fun e => ?_,fun h => h⟩),((HI5.out.fr.nil _).trans hfb).sub (fun k hk => .inr ?_),HI5.out.ap⟩,hid (HBX5.out.keep hfb (fun hx => ?_))⟩
      ·rcases hX _ hx with h | h
       ·omega
       ·omega
      ·rcases hX _ hx with h | h
       ·omega
       ·omega
      ·rcases hX _ hk with h | h
       ·have:=(HI5.out.done.own k e).1;omega
       ·exact h.1 (HI5.out.ap k e)
      ·rcases hX _ hk with h | h
       ·omega
       ·omega
      ·rcases hX _ hx with h | h
       ·omega
       ·exact h.1 hAx
     case measure => rw [hrg7.left_eq,HRN.out.left_eq];exact hlt4
  ·have hin : i = n:=by omega
   subst hin
   have hd2 : decide ((i : Int) < (i : Int)) = false:=by simp
   have hd3 : decide (i < i) = false:=by simp
   have HI1:=HI
   clear HI
   go_wp2_with fail
   go_loopg [6,12] (s.length + 1) (fun gg vd x wr => ∃ (nx : Nat) (d : Un.Dst),x = .int .i64 nx ∧ nx ≤ 1000000 ∧ Hid (Un.spread s.length (plAt s s.length) gg nx d = some dz) ∧ Hid (DepI s w (fun g => vd.ownBlock = some g) (plAt s s.length) d.mi d.de d.dn vd wr))
   case atStart => exact ⟨0,_,rfl,by omega,HR,by rw [← HN.out];exact HI1⟩
   case round =>
    obtain ⟨nx,d,rfl,hnx,HQ,HI⟩:=hrel
    clear HI1
    obtain ⟨f1,hf1⟩ : ∃ f1,gk = f1 + 1:=by
     cases gk with
     | zero => have h0:=HQ.out;simp [Un.spread] at h0
     | succ f1 => exact ⟨f1,rfl⟩
    subst hf1
    obtain ⟨pd,cd,hvd⟩:=HI.out.done.shape
    subst hvd
    cases hdn : d.dn[nx]? with
    | none =>
     have h0:=HQ.out
     rw [Un.spread,hdn] at h0
     simp only at h0
     by_cases hdl : d.dn.length ≤ 1000000
     ·rw [if_pos hdl] at h0
      have hdz : d = dz:=Option.some.inj h0
      subst hdz
      have hge : d.dn.length ≤ nx:=List.getElem?_eq_none_iff.1 hdn
      have hd4 : decide ((nx : Int) < (d.dn.length : Int)) = false:=by simp;omega
      have hd5 : decide (nx < d.dn.length) = false:=by simp;omega
      clear hdn hge
      go_wp2_with fail
      refine bodyPost_ret (v:=.tuple #[.slice (some ⟨w.heap.size + 1 + 1,0,none⟩) i i,.bool ((d.dn.length : Int) == (i : Int))]) (by simp [results,Try.results62,go_sem]) rfl ?_
      have hbe : ((d.dn.length : Int) == (i : Int)) = (d.dn.length == s.length):=by
       rw [← HN.out,Bool.eq_iff_iff];simp;omega
      rw [hbe]
      have hsl:=Un.spread_len HR.out
      simp only at hsl
      refine ⟨w.heap.size + 1 + 1,by rw [HRZ.out],HI.out.fr,by rw [HRZ.out,HN.out];simp only;rw [hsl];unfold depAt;simp,by omega,by rw [HRZ.out];exact HI.out.dep⟩
     ·rw [if_neg hdl] at h0;cases h0
    | some v =>
     have h0:=HQ.out
     rw [Un.spread,hdn] at h0
     simp only at h0
     by_cases hv : 0 ≤ v ∧ v < s.length ∧ d.dn.length ≤ 1000000
     ·rw [if_pos hv] at h0
      obtain ⟨d1,hd1,hsp⟩:=Option.bind_eq_some_iff.1 h0
      obtain ⟨hv0,hv1,hdl⟩:=hv
      obtain ⟨vv,rfl⟩ : ∃ vv : Nat,v = vv:=⟨v.toNat,by omega⟩
      simp only [Int.toNat_natCast] at hd1
      have hvv : vv < s.length:=by omega
      have hvi : vv < i:=by have:=HN.out;omega
      have hlt2 : nx < d.dn.length:=(List.getElem?_eq_some_iff.1 hdn).1
      have hd4 : decide ((nx : Int) < (d.dn.length : Int)) = true:=by simp;omega
      have hd5 : decide (nx < d.dn.length) = true:=by simpa using hlt2
      have hd6 : decide (vv < i) = true:=by simpa using hvi
      have hd7 : decide ((vv : Int) < (i : Int)) = true:=by simp;omega
      obtain ⟨g,cap,ds,hsl,hg1,hg2,hg3,hg4,hq,hdsl,hcell⟩:=ownl_el ln_qInt HI.out.done hdn
      have x0 : wr.cell? ⟨g,nx,none⟩ = some (.int .i64 vv):=by
       have h1:=hcell 0 (by decide)
       obtain ⟨c,rfl,_⟩:=inn_int hq
       simpa using h1
      have hsl':=hsl
      simp only [Value.slice.injEq,true_and] at hsl
      obtain ⟨rfl,rfl⟩:=hsl
      have hpl : ((List.range s.length).map (plAt s s.length))[vv]? = some (plAt s s.length vv):=by simp [hvv]
      obtain ⟨pr,cr,r0,r1,r2,r3⟩:=HI.out.rows.el hpl
      have hpn:=plAt_len s vv s.length
      have hpn2 : (plAt s s.length vv).length ≤ i:=by have:=HN.out;omega
      have lP : w.heap.size < wr.heap.size:=HI.out.rows.blk
      have HR0:=hid r0
      have HD1:=hid hd1
      have HSP:=hid hsp
      have HPL:=hid hpl
      obtain ⟨L,hL⟩ : ∃ L,L = plAt s s.length vv:=⟨_,rfl⟩
      have HL:=hid hL
      rw [← hL] at r0 hpn2 HR0 HD1 HPL
      clear hdn h0 hd1 hsp hv0 hv1 hcell hq hsl' hdsl r1 r2 r3 hpl hpn hL
      unfold maxLen at hg4
      go_wp2_with fail
      go_loopw [6,88] (fun vd x wr => ∃ (k : Nat) (d : Un.Dst),x = .int .i64 k ∧ k ≤ L.length ∧ Hid (Un.relax s.length (vv : Int) (L.drop k) d = some d1) ∧ Hid (DepI s w (fun g => vd.ownBlock = some g) (plAt s s.length) d.mi d.de d.dn vd wr) ∧ Hid (wr.cell? ⟨w.heap.size,vv,none⟩ = some (.slice pr L.length cr))) (fun _ x _ => L.length - (RowKit.intOf x).toNat)
      case atStart => exact ⟨0,d,rfl,Nat.zero_le _,by rw [List.drop_zero];exact HD1,HI,HR0⟩
      case round =>
       obtain ⟨k,d2,rfl,hk,HRX,HI2,HR2⟩:=hrel
       clear HD1 HI HR0
       by_cases hlt3 : k < L.length
       ·have hda : decide ((k : Int) < (L.length : Int)) = true:=by simp;omega
        have hdb : decide (k < L.length) = true:=by simpa using hlt3
        obtain ⟨⟨e0,a0⟩,hxe⟩ : ∃ x,x = L[k]:=⟨_,rfl⟩
        have hLk : L[k]? = some (e0,a0):=by rw [hxe];exact List.getElem?_eq_getElem hlt3
        have hrx:=HRX.out
        rw [List.drop_eq_getElem_cons hlt3,← hxe,Un.relax] at hrx
        by_cases hok : Un.relaxOk s.length (vv : Int) (e0,a0) d2 = true
        ·rw [if_pos hok] at hrx
         have HRX2:=hid hrx
         unfold Un.relaxOk Un.inR at hok
         simp only [Bool.and_eq_true,decide_eq_true_eq] at hok
         obtain ⟨⟨⟨⟨⟨k1,k2⟩,_⟩,_⟩,⟨⟨⟨⟨k3,k4⟩,k5,k6⟩,k7,k8⟩,k9,k10⟩⟩,⟨k11,k12⟩,k13⟩:=hok
         obtain ⟨e,rfl⟩ : ∃ e : Nat,e0 = e:=⟨e0.toNat,by omega⟩
         have hes : e < s.length:=by omega
         have hei : e < i:=by have:=HN.out;omega
         have hdc : decide (e < i) = true:=by simpa using hei
         have hdd : decide ((e : Int) < (i : Int)) = true:=by simp;omega
         obtain ⟨pd,cd,hvd⟩:=HI2.out.done.shape
         subst hvd
         obtain ⟨p1,c1,q0,q1,q2,q3⟩:=HI2.out.rows.el HPL.out
         have heq:=q0.symm.trans HR2.out
         simp only [Option.some.injEq,Value.slice.injEq,true_and] at heq
         obtain ⟨rfl,rfl⟩:=heq
         obtain ⟨g2,cap2,ds2,hsl2,hg5,hg6,hg7,hg8,hq2,hdsl2,hcell2⟩:=ownl_el ln_qPair q1 hLk
         simp only [Value.slice.injEq,true_and] at hsl2
         obtain ⟨rfl,rfl⟩:=hsl2
         obtain ⟨cc,rfl,hq3⟩:=inn_int hq2
         obtain ⟨cc2,rfl,hq4⟩:=inn_int hq3
         have y0 : wr.cell? ⟨g2,k * 2,none⟩ = some (.int .i64 e):=by simpa using hcell2 0 (by decide)
         have y1 : wr.cell? ⟨g2,k * 2 + 1,none⟩ = some (.int .i64 a0):=by simpa using hcell2 1 (by decide)
         unfold maxLen at hg8
         have HK:=hid hk
         have HLK:=hid hLk
         obtain ⟨x1,hx1⟩ : ∃ x,x = Un.nth d2.de e:=⟨_,rfl⟩
         obtain ⟨x2,hx2⟩ : ∃ x,x = Un.nth d2.de vv:=⟨_,rfl⟩
         obtain ⟨x3,hx3⟩ : ∃ x,x = Un.nth d2.mi e:=⟨_,rfl⟩
         have n1 : d2.de[e]? = some x1:=by rw [hx1];unfold Un.nth;simp [k11,hes]
         have n2 : d2.de[vv]? = some x2:=by rw [hx2];unfold Un.nth;simp [k11,hvv]
         have n3 : d2.mi[e]? = some x3:=by rw [hx3];unfold Un.nth;simp [k12,hes]
         rw [← hx2] at k5 k6
         rw [← hx1] at k7 k8
         rw [← hx3] at k9 k10
         have N1:=hid n1
         have N2:=hid n2
         have N3:=hid n3
         have HRX3 : Hid (Un.relax s.length (vv : Int) (L.drop (k + 1)) { de:=d2.de.set e (max x1 (a0 + x2)),mi:=d2.mi.set e (x3 - 1),dn:=if x3 - 1 = 0 then d2.dn ++ [(e : Int)] else d2.dn } = some d1):=hid (by
          have h1:=HRX2.out
          unfold Un.relax1 at h1
          rw [← hx1,← hx2,← hx3] at h1
          simpa using h1)
         clear hrx HRX HRX2 hxe hLk q0 q1 q2 q3 hcell2 hq2 hq3 hq4 hdsl2 n1 n2 n3 hx1 hx2 hx3
         have z1:=HI2.out.dep.el N1.out
         have z2:=HI2.out.dep.el N2.out
         have zl:=HI2.out.dep.lt
         have zf:=HI2.out.dep.frozen e
         have hsum : IntKind.i64.wrap (a0 + x2) = a0 + x2:=IntWalk.i64_in _ (by omega)
         go_wp2_with fail
         go_region
         have hz4 : (wr.setCell ⟨w.heap.size + 1 + 1,e,none⟩ (.int .i64 (max x1 (a0 + x2)))).heap.size = wr.heap.size:=by simp [World.setCell]
         have hI3:=HI2.out.setDep e (max x1 (a0 + x2))
         have hf3 : Fr [] (wr.setCell ⟨w.heap.size + 1 + 1,e,none⟩ (.int .i64 (max x1 (a0 + x2)))) (((wr.setCell ⟨w.heap.size + 1 + 1,e,none⟩ (.int .i64 (max x1 (a0 + x2)))).alloc (.cells #[.int .i64 e,.int .i64 a0] 103)).drew):=((Fr.refl [] _).alloc _).drew
         have hb3 : Blk (((wr.setCell ⟨w.heap.size + 1 + 1,e,none⟩ (.int .i64 (max x1 (a0 + x2)))).alloc (.cells #[.int .i64 e,.int .i64 a0] 103)).drew) wr.heap.size 103 #[.int .i64 e,.int .i64 a0]:=(Blk.new_at hz4 : Blk ((wr.setCell ⟨w.heap.size + 1 + 1,e,none⟩ (.int .i64 (max x1 (a0 + x2)))).alloc (.cells #[.int .i64 e,.int .i64 a0] 103)) wr.heap.size 103 #[.int .i64 e,.int .i64 a0])
         have hc3 : (((wr.setCell ⟨w.heap.size + 1 + 1,e,none⟩ (.int .i64 (max x1 (a0 + x2)))).alloc (.cells #[.int .i64 e,.int .i64 a0] 103)).drew).cell? ⟨w.heap.size,vv,none⟩ = some (.slice (some ⟨g2,0,none⟩) L.length c1):=by
          rw [hf3.cell (by rw [hz4];omega) (by simp)]
          rw [World.cell?_of_block (w:=wr) (Below.heap_setCell _ _ _ _ (by simp;omega))]
          exact HR2.out
         have HI4:=hid (hI3.keep0 hf3)
         have HB4:=hid hb3
         have HC4:=hid hc3
         clear hz4 hI3 hf3 hb3 hc3 z1 z2 zf y0 y1 HI2 HR2 hsum hg5 hg6
         generalize hw4 : ((wr.setCell ⟨w.heap.size + 1 + 1,e,none⟩ (.int .i64 (max x1 (a0 + x2)))).alloc (.cells #[.int .i64 e,.int .i64 a0] 103)).drew = w4
         rw [hw4] at HI4 HB4 HC4
         have HLT4 : Hid (wr.heap.size < w4.heap.size):=hid HB4.out.lt
         clear hw4
         have p0 : w4.cell? ⟨wr.heap.size,0,none⟩ = some (.int .i64 e):=HB4.out.cell 0
         have p1 : w4.cell? ⟨wr.heap.size,1,none⟩ = some (.int .i64 a0):=HB4.out.cell 1
         have pl4:=HB4.out.lt
         have m0:=HI4.out.mis.el N3.out
         have ml:=HI4.out.mis.lt
         have mf:=HI4.out.mis.frozen e
         have hne4 : wr.heap.size ≠ w.heap.size + 1:=by omega
         by_cases hz : x3 - 1 = 0
         ·have HRX4:=HRX3
          rw [if_pos hz] at HRX4
          obtain rfl : x3 = 1:=by omega
          clear HRX3 hz
          have HI5:=hid (HI4.out.setMis e 0)
          have HC5 : Hid ((w4.setCell ⟨w.heap.size + 1,e,none⟩ (.int .i64 0)).cell? ⟨w.heap.size,vv,none⟩ = some (.slice (some ⟨g2,0,none⟩) L.length c1)):=hid (by
           rw [World.cell?_of_block (w:=w4) (Below.heap_setCell _ _ _ _ (by simp))]
           exact HC4.out)
          obtain ⟨q1,q2,q3,q4⟩:=ownl_ready2 (news:=[.int .i64 (e : Int)]) (qb:=qInt (e : Int)) HI5.out.done (by simp [World.setCell];omega) (InN.mk_int (InN.mk_nil _ _)) 3
          have hsz5 : (w4.setCell ⟨w.heap.size + 1,e,none⟩ (.int .i64 0)).heap.size = w4.heap.size:=by simp [World.setCell]
          rw [hsz5] at q2
          have G1:=hid q1
          have G2:=hid q2
          have G3:=hid q3
          clear q1 q2 q3 hsz5
          go_wp2_with (at_builtin;go_loud (refine wpList_append_ownl _ rfl _ _ 28 rfl (fun _ => False) (w.heap.size + 3) 3 i0 _ 1 8 Try.underlying28 HII0.out iz0 iz1 iz2 rfl (by decide) _ d2.dn.length 1 (rowsQ qInt d2.dn) (qInt (e : Int)) rfl G1.out ⟨w4.heap.size,0,none⟩ 1 [.int .i64 (e : Int)] rfl rfl G2.out G3.out (by omega) (by decide) q4 ?_;intro v' w8 hL8 hg8 hv8;obtain ⟨p8,c8,rfl⟩:=hL8.shape;have HL8:=hid hL8;have HG8:=hid hg8;have HV8:=hid hv8;clear hL8 hg8 hv8))
          go_roundw
          case rel =>
           refine ⟨k + 1,_,by go_num,by omega,HRX4,hid ?_,hid ?_⟩
           ·have h1:=HI5.out.keep0 ((Fr.refl [] _).alloc (.cells #[.int .i64 (e : Int)] 3))
            have hfr : Fr (Value.slice pd d2.dn.length cd).ownBlock.toList ((w4.setCell ⟨w.heap.size + 1,e,none⟩ (.int .i64 0)).alloc (.cells #[.int .i64 (e : Int)] 3)) w8:=⟨HG8.out.os,HG8.out.tape,HG8.out.output,HG8.out.size,fun k hk hx => HG8.out.block k hk (fun e => hx (by simp;exact e.symm))⟩
            have hown : ∀ k ∈ (Value.slice pd d2.dn.length cd).ownBlock.toList,(Value.slice pd d2.dn.length cd).ownBlock = some k ∧ w.heap.size + 3 ≤ k:=fun k hk => by
             have h2 : (Value.slice pd d2.dn.length cd).ownBlock = some k:=by simpa using hk
             exact ⟨h2,(h1.done.own k h2).1⟩
            have h3:=h1.rows.apart (A':=fun g => (Value.slice p8 (d2.dn.length + 1) c8).ownBlock = some g ∨ (Value.slice pd d2.dn.length cd).ownBlock = some g) (fun g hg => by
             rcases hg with hg | hg
             ·rcases HV8.out g hg with h | h
              ·exact .inr h
              ·exact .inl (h1.ap g h)
             ·exact .inl (h1.ap g hg))
            have h4:=(h3.keep hfr (fun k hk => ⟨by have:=(hown k hk).2;omega,.inr (.inr (hown k hk).1)⟩)).apart (A':=fun g => (Value.slice p8 (d2.dn.length + 1) c8).ownBlock = some g) (fun g hg => .inl (.inl hg))
            have h5:=HL8.out
            exact ⟨h4,h1.mis.keep hfr (fun hx => by have:=(hown _ hx).2;omega),h1.dep.keep hfr (fun hx => by have:=(hown _ hx).2;omega),by simp only [List.length_append,List.length_singleton,rowsQ_snoc];exact h5,((h1.fr.nil _).trans hfr).sub (fun k hk => .inr (by have:=(hown k hk).2;omega)),fun g hg => hg⟩
           ·have hown2 : ∀ k,(Value.slice pd d2.dn.length cd).ownBlock = some k → w.heap.size + 3 ≤ k:=fun k hk => (HI5.out.done.own k hk).1
            rw [World.cell?_of_block (w:=(w4.setCell ⟨w.heap.size + 1,e,none⟩ (.int .i64 0)).alloc (.cells #[.int .i64 (e : Int)] 3)) (HG8.out.block w.heap.size (by simp [World.setCell];omega) (fun e => by have:=hown2 _ e.symm;omega))]
            rw [World.cell?_of_block (w:=w4.setCell ⟨w.heap.size + 1,e,none⟩ (.int .i64 0)) (Below.heap_alloc _ _ _ (by simp [World.setCell];omega))]
            exact HC5.out
          case measure => simp [RowKit.intOf];omega
         ·have hz1 : ((x3 - 1) == 0) = false:=by simp [hz]
          have HRX4:=HRX3
          rw [if_neg hz] at HRX4
          have HI5:=hid (HI4.out.setMis e (x3 - 1))
          have HC5 : Hid ((w4.setCell ⟨w.heap.size + 1,e,none⟩ (.int .i64 (x3 - 1))).cell? ⟨w.heap.size,vv,none⟩ = some (.slice (some ⟨g2,0,none⟩) L.length c1)):=hid (by
           rw [World.cell?_of_block (w:=w4) (Below.heap_setCell _ _ _ _ (by simp))]
           exact HC4.out)
          clear HRX3 hz
          go_wp2_with fail
          go_roundw
          case rel => exact ⟨k + 1,_,by go_num,by omega,HRX4,HI5,HC5⟩
          case measure => simp [RowKit.intOf];omega
        ·rw [if_neg hok] at hrx;cases hrx
       ·have hda : decide ((k : Int) < (L.length : Int)) = false:=by simp;omega
        have hdb : decide (k < L.length) = false:=by simpa using hlt3
        have hd12 : d2 = d1:=by
         have h1:=HRX.out
         rw [List.drop_eq_nil_of_le (by omega),Un.relax] at h1
         exact Option.some.inj h1
        subst hd12
        obtain ⟨pd,cd,hvd⟩:=HI2.out.done.shape
        subst hvd
        go_wp2_with fail
        go_roundg f1
        case measure => omega
        case rel => exact ⟨nx + 1,_,by go_num,by omega,HSP,HI2⟩
     ·rw [if_neg hv] at h0;cases h0
end Go.Proofs.Ytcdlnhfgehhkcaa
