/- part of the proof -/
import Derived.Test.YtcdlnhfgehhkcaaQ36
import Derived.Test.YtcdlnhfgehhkcaaQ12
set_option linter.unusedVariables false
set_option linter.unusedSimpArgs false
set_option linter.unusedSectionVars false
namespace Go.Proofs.Ytcdlnhfgehhkcaa
open Go.RowKit Go.Lib
open Un (kd nm ar size sizes same mts)
structure RFd (w0 : World) (B n tb kb : Nat) (s : Int → Option Ty) (w : World) : Prop where
 els : ∃ L : List Ty,L.length = n ∧ (∀ i : Nat,i < n → L[i]? = some ((s (i : Int)).getD Un.zero)) ∧ ElsA w0 w (fun k => k < B) tb n L
 kn : BoolsB w kb ((List.range n).map fun (i : Nat) => (s (i : Int)).isSome)
 rg : ∀ i,(s i).isSome = true → 0 ≤ i ∧ i < n
theorem RFd.keep0 {w0 : World} {B n tb kb : Nat} {s : Int → Option Ty} {w w' : World} (h : RFd w0 B n tb kb s w) (hf : Fr [] w w') : RFd w0 B n tb kb s w':=by
 obtain ⟨⟨L,h1,h2,h3⟩,h4,h5⟩:=h
 exact ⟨⟨L,h1,h2,h3.keep0 hf⟩,h4.keep hf (by simp),h5⟩
def MatR (w0 : World) (B n tb kb : Nat) (r : (Int → Option Ty) × Bool) (w : World) (e : Ending) (w' : World) : Prop:=e = .returned (.bool r.2) ∧ Fr [tb,kb] w w' ∧ (r.2 = true → RFd w0 B n tb kb r.1 w')
theorem mt_par {n : Int} {p t : Ty} {s : Int → Option Ty} (h : kd p = 5) : Un.mt n p t s = match s (nm p) with
   | some e => (s,same e t)
   | none => ((fun j => if j = nm p then some t else s j),decide (0 ≤ nm p) && decide (nm p < n)):=by rw [Un.mt_eq,if_pos h];cases s (nm p) <;> rfl
theorem mt_str {n : Int} {p t : Ty} {s : Int → Option Ty} (h : kd p ≠ 5) : Un.mt n p t s = if (kd p == kd t && nm p == nm t) then (if (ar p).length = (ar t).length then mts n (ar p) (ar t) s else (s,false)) else (s,false):=by
 cases p with
 | mk k i al =>
  rw [Un.mt,if_neg (show ¬ k = 5 from h)]
  rfl
set_option maxRecDepth 100000 in
set_option maxHeartbeats 1600000 in
theorem rmatch_out (w0 : World) (B n tb kb : Nat) (hn : n ≤ 4) (a b : Ty) (s : Int → Option Ty) (cs ds : List Value) (w : World) (ha : TyV w (fun _ => True) a cs) (hb : TyV w (fun _ => True) b ds) (hf : RFd w0 B n tb kb s w) (h5 : kd a = 5) (ho : nm a < 0 ∨ (n : Int) ≤ nm a) :
  Calls Try.prog 51 #[.agg cs.toArray,.agg ds.toArray,.agg #[.slice (some ⟨tb,0,none⟩) n n,.slice (some ⟨kb,0,none⟩) n n]] w (MatR w0 B n tb kb (Un.mt n a b s) w):=by
 have hs : s (nm a) = none:=by
  cases h : s (nm a) with
  | none => rfl
  | some e => have:=hf.rg (nm a) (by rw [h];rfl);omega
 have hR : (Un.mt (n : Int) a b s).2 = false:=by
  rw [mt_par h5,hs]
  simp only
  rcases ho with h | h
  ·rw [decide_eq_false (by omega),Bool.false_and]
  ·rw [decide_eq_false (p:=nm a < (n : Int)) (by omega),Bool.and_false]
 obtain ⟨r,hr⟩ : ∃ r,r = Un.mt (n : Int) a b s:=⟨_,rfl⟩
 rw [← hr] at hR ⊢
 have HR:=hid hR
 obtain ⟨p,c,rfl,_⟩:=ha.shape
 obtain ⟨q,d,rfl,_⟩:=hb.shape
 have e1 : (kd a == 5) = true:=by simp [h5]
 have done : ∀ o : Obj,∀ o' o'',MatR w0 B n tb kb r w (.returned (.bool false)) (((w.alloc o).alloc o').alloc o''):=fun o o' o'' => ⟨by rw [HR.out],(((Fr.refl _ _).alloc _).alloc _).alloc _,fun h => by rw [HR.out] at h;cases h⟩
 clear ha hb hf hs hR hr h5
 by_cases h0 : nm a < 0
 ·have e2 : decide (nm a < 0) = true:=by simpa using h0
  clear ho h0
  go_enter Try.func51,Try.ntmps51
  go_wp2_with fail
  go_ret
  exact done _ _ _
 ·have e2 : decide (nm a < 0) = false:=by simpa using h0
  have e3 : decide ((n : Int) ≤ nm a) = true:=by simp;omega
  clear ho h0
  go_enter Try.func51,Try.ntmps51
  go_wp2_with fail
  go_ret
  exact done _ _ _
set_option maxRecDepth 100000 in
set_option maxHeartbeats 6400000 in
theorem rmatch_new (w0 : World) (B n tb kb : Nat) (hn : n ≤ 4) (hne : tb ≠ kb) (a b : Ty) (s : Int → Option Ty) (cs ds : List Value) (w : World) (ha : TyV w (fun _ => True) a cs) (hb : TyV w0 (fun k => k < B) b ds) (hf : RFd w0 B n tb kb s w) (h5 : kd a = 5) (m : Nat) (hm : nm a = m) (hmn : m < n) (hs : s m = none) :
  Calls Try.prog 51 #[.agg cs.toArray,.agg ds.toArray,.agg #[.slice (some ⟨tb,0,none⟩) n n,.slice (some ⟨kb,0,none⟩) n n]] w (MatR w0 B n tb kb (Un.mt n a b s) w):=by
 obtain ⟨p,c,rfl,_⟩:=ha.shape
 obtain ⟨q,d,rfl,_⟩:=hb.shape
 have hR : Un.mt (n : Int) a b s = ((fun j => if j = nm a then some b else s j),true):=by
  rw [mt_par h5,hm,hs]
  simp only
  rw [decide_eq_true (by omega : (0 : Int) ≤ (m : Int)),decide_eq_true (by omega : (m : Int) < (n : Int))]
  try rfl
 rw [hR]
 rw [hm]
 obtain ⟨⟨L,l1,l2,l3⟩,l4,l5⟩:=hf
 have e1 : (kd a == 5) = true:=by simp [h5]
 have e2 : decide ((m : Int) < 0) = false:=decide_eq_false (by omega)
 have e3 : decide ((n : Int) ≤ (m : Int)) = false:=by simp;omega
 have e4 : decide (m < n) = true:=by simpa using hmn
 have e5 : decide ((m : Int) < (n : Int)) = true:=by simp;omega
 have e6 : (m : Int) < (n : Int):=by omega
 have hkm : ((List.range n).map fun (i : Nat) => (s (i : Int)).isSome)[m]? = some false:=by rw [List.getElem?_map,List.getElem?_range hmn,Option.map_some,hs];rfl
 have HM:=hid hm
 obtain ⟨w1,hw1⟩ : ∃ w1,w1 = ((w.alloc (.cells #[.int .i64 (kd a),.int .i64 m,.slice p (ar a).length c] 24)).alloc (.cells #[.int .i64 (kd b),.int .i64 (nm b),.slice q (ar b).length d] 24)).alloc (.cells #[.slice (some ⟨tb,0,none⟩) n n,.slice (some ⟨kb,0,none⟩) n n] 76):=⟨_,rfl⟩
 have hf1 : Fr [] w w1:=by rw [hw1];exact (((Fr.refl _ _).alloc _).alloc _).alloc _
 have tlt : tb < w.heap.size:=l3.lt
 have klt : kb < w.heap.size:=l4.lt
 have L3:=hid (l3.keep0 hf1)
 have L4:=hid (l4.keep hf1 (by simp))
 have HFX : Hid (Blk w1 (w.heap.size + 1 + 1) 76 #[.slice (some ⟨tb,0,none⟩) n n,.slice (some ⟨kb,0,none⟩) n n]):=hid (by rw [hw1];exact Blk.new_at (by simp))
 have HPX : Hid (Blk w1 w.heap.size 24 #[.int .i64 (kd a),.int .i64 m,.slice p (ar a).length c]):=hid (by rw [hw1];exact ((Blk.new _ _ _).alloc _).alloc _)
 have k0 : w1.cell? ⟨kb,m,none⟩ = some (.bool false):=L4.out.el hkm
 have kl : kb < w1.heap.size:=L4.out.lt
 obtain ⟨p9,c9,_,y0,y1,y2,y3⟩:=L3.out.el (l2 m hmn)
 have z0:=y3 (m * 3)
 have z1:=y3 (m * 3 + 1)
 have z2:=y3 (m * 3 + 2)
 have yl : tb < w1.heap.size:=L3.out.lt
 have L2:=hid l2
 have LL:=hid l1
 have L5:=hid l5
 have HB4 : Hid (BoolsB (((w1.setCell ⟨tb,m * 3,none⟩ (.int .i64 (kd b))).setCell ⟨tb,m * 3 + 1,none⟩ (.int .i64 (nm b))).setCell ⟨tb,m * 3 + 2,none⟩ (.slice q (ar b).length d)) kb ((List.range n).map fun (i : Nat) => (s (i : Int)).isSome)):=hid (((L4.out.other (by show kb ≠ tb;omega) _).other (by show kb ≠ tb;omega) _).other (by show kb ≠ tb;omega) _)
 have HX4 : Hid (Blk (((w1.setCell ⟨tb,m * 3,none⟩ (.int .i64 (kd b))).setCell ⟨tb,m * 3 + 1,none⟩ (.int .i64 (nm b))).setCell ⟨tb,m * 3 + 2,none⟩ (.slice q (ar b).length d)) (w.heap.size + 1 + 1) 76 #[.slice (some ⟨tb,0,none⟩) n n,.slice (some ⟨kb,0,none⟩) n n]):=hid (((HFX.out.other (by show w.heap.size + 1 + 1 ≠ tb;omega) _).other (by show w.heap.size + 1 + 1 ≠ tb;omega) _).other (by show w.heap.size + 1 + 1 ≠ tb;omega) _)
 have HP4 : Hid (Blk (((w1.setCell ⟨tb,m * 3,none⟩ (.int .i64 (kd b))).setCell ⟨tb,m * 3 + 1,none⟩ (.int .i64 (nm b))).setCell ⟨tb,m * 3 + 2,none⟩ (.slice q (ar b).length d)) w.heap.size 24 #[.int .i64 (kd a),.int .i64 m,.slice p (ar a).length c]):=hid (((HPX.out.other (by show w.heap.size ≠ tb;omega) _).other (by show w.heap.size ≠ tb;omega) _).other (by show w.heap.size ≠ tb;omega) _)
 have HE4 : Hid (ElsA w0 (((w1.setCell ⟨tb,m * 3,none⟩ (.int .i64 (kd b))).setCell ⟨tb,m * 3 + 1,none⟩ (.int .i64 (nm b))).setCell ⟨tb,m * 3 + 2,none⟩ (.slice q (ar b).length d)) (fun k => k < B) tb n (L.set m b)):=hid (L3.out.set (by rw [l1];exact hmn) hb)
 have i0:=HX4.out.cell 1
 have i2:=HP4.out.cell 1
 have i4 : (((w1.setCell ⟨tb,m * 3,none⟩ (.int .i64 (kd b))).setCell ⟨tb,m * 3 + 1,none⟩ (.int .i64 (nm b))).setCell ⟨tb,m * 3 + 2,none⟩ (.slice q (ar b).length d)).cell? ⟨kb,m,none⟩ = some (.bool false):=BoolsB.el HB4.out hkm
 have i5 : (((w1.setCell ⟨tb,m * 3,none⟩ (.int .i64 (kd b))).setCell ⟨tb,m * 3 + 1,none⟩ (.int .i64 (nm b))).setCell ⟨tb,m * 3 + 2,none⟩ (.slice q (ar b).length d)).frozen? ⟨kb,m,none⟩ = false:=BoolsB.frozen HB4.out m
 have i6 : kb < (((w1.setCell ⟨tb,m * 3,none⟩ (.int .i64 (kd b))).setCell ⟨tb,m * 3 + 1,none⟩ (.int .i64 (nm b))).setCell ⟨tb,m * 3 + 2,none⟩ (.slice q (ar b).length d)).heap.size:=BoolsB.lt HB4.out
 obtain ⟨w5,hw5⟩ : ∃ w5,w5 = (((w1.setCell ⟨tb,m * 3,none⟩ (.int .i64 (kd b))).setCell ⟨tb,m * 3 + 1,none⟩ (.int .i64 (nm b))).setCell ⟨tb,m * 3 + 2,none⟩ (.slice q (ar b).length d)).setCell ⟨kb,m,none⟩ (.bool true):=⟨_,rfl⟩
 have HFW : Hid (Fr [tb,kb] w w5):=hid (by rw [hw5];exact ((((hf1.nil [tb,kb]).setCell (.inl (by simp)) _).setCell (.inl (by simp)) _).setCell (.inl (by simp)) _).setCell (.inl (by simp)) _)
 have HKW : Hid (BoolsB w5 kb (((List.range n).map fun (i : Nat) => (s (i : Int)).isSome).set m true)):=hid (by rw [hw5];exact BoolsB.set HB4.out m true)
 have HEW : Hid (ElsA w0 w5 (fun k => k < B) tb n (L.set m b)):=hid (by rw [hw5];exact HE4.out.at (Below.heap_setCell _ _ _ _ (by show tb ≠ kb;exact hne)))
 have HR : Hid (MatR w0 B n tb kb ((fun j => if j = (m : Int) then some b else s j),true) w (.returned (.bool true)) w5):=hid (by
  refine ⟨rfl,HFW.out,fun _ => ⟨⟨L.set m b,by rw [List.length_set,LL.out],fun i hi => ?_,HEW.out⟩,?_,fun i hi => ?_⟩⟩
  ·show (L.set m b)[i]? = some ((if (i : Int) = (m : Int) then some b else s i).getD Un.zero)
   by_cases e : i = m
   ·subst e
    rw [List.getElem?_set_self (by rw [LL.out];exact hi),if_pos rfl]
    rfl
   ·rw [List.getElem?_set_ne (by omega),L2.out i hi,if_neg (by omega)]
  ·have e : ((List.range n).map fun (i : Nat) => (if (i : Int) = (m : Int) then some b else s (i : Int)).isSome) = ((List.range n).map fun (i : Nat) => (s (i : Int)).isSome).set m true:=by
    refine List.ext_getElem? fun j => ?_
    by_cases hj : j < n
    ·rw [List.getElem?_map,List.getElem?_range hj,Option.map_some]
     by_cases e : j = m
     ·subst e
      rw [List.getElem?_set_self (by simpa using hj),if_pos rfl]
      rfl
     ·rw [List.getElem?_set_ne (by omega),List.getElem?_map,List.getElem?_range hj,Option.map_some,if_neg (by omega)]
    ·rw [List.getElem?_eq_none (by simp;omega),List.getElem?_eq_none (by simp;omega)]
   show BoolsB w5 kb ((List.range n).map fun (i : Nat) => (if (i : Int) = (m : Int) then some b else s (i : Int)).isSome)
   rw [e]
   exact HKW.out
  ·have hi : (if i = (m : Int) then some b else s i).isSome = true:=hi
   by_cases e : i = (m : Int)
   ·omega
   ·rw [if_neg e] at hi
    exact L5.out i hi)
 rw [hw5] at HR
 clear ha hb hm h5 hR l1 l2 l3 l4 l5 hkm y3 hs hf1 HFW HKW HEW HE4 HB4 HX4 HP4 HFX HPX L3 L4 L2 L5 LL hw5
 subst hw1
 go_enter Try.func51,Try.ntmps51
 go_wp2_with fail
 trace_state
 go_ret
 exact HR.out
theorem RFd.lts {w0 : World} {B n tb kb : Nat} {s : Int → Option Ty} {w : World} (h : RFd w0 B n tb kb s w) : tb < w.heap.size ∧ kb < w.heap.size:=by
 obtain ⟨⟨L,_,_,h3⟩,h4,_⟩:=h
 exact ⟨h3.lt,h4.lt⟩
theorem MatR.stay {w0 : World} {B n tb kb : Nat} {s : Int → Option Ty} {w w' : World} {b : Bool} (h : RFd w0 B n tb kb s w) (hf : Fr [] w w') : MatR w0 B n tb kb (s,b) w (.returned (.bool b)) w':=⟨rfl,hf.nil _,fun _ => h.keep0 hf⟩
set_option maxRecDepth 100000 in
set_option maxHeartbeats 3200000 in
theorem rmatch_known (w0 : World) (B n tb kb : Nat) (hn : n ≤ 4) (hB : B ≤ tb ∧ B ≤ kb) (a b : Ty) (s : Int → Option Ty) (cs ds : List Value) (w : World) (ha : TyV w (fun _ => True) a cs) (hb : TyV w (fun _ => True) b ds) (hf0 : Fr [tb,kb] w0 w) (hf : RFd w0 B n tb kb s w) (h5 : kd a = 5) (m : Nat) (hm : nm a = m) (hmn : m < n) (u : Ty) (hs : s m = some u) :
  Calls Try.prog 51 #[.agg cs.toArray,.agg ds.toArray,.agg #[.slice (some ⟨tb,0,none⟩) n n,.slice (some ⟨kb,0,none⟩) n n]] w (MatR w0 B n tb kb (Un.mt n a b s) w):=by
 obtain ⟨p,c,rfl,_⟩:=ha.shape
 obtain ⟨q,d,rfl,_⟩:=hb.shape
 have hR : Un.mt (n : Int) a b s = (s,same u b):=by rw [mt_par h5,hm,hs]
 rw [hR]
 rw [hm]
 have HFD:=hid hf
 obtain ⟨⟨L,l1,l2,l3⟩,l4,l5⟩:=hf
 have e1 : (kd a == 5) = true:=by simp [h5]
 have e2 : decide ((m : Int) < 0) = false:=decide_eq_false (by omega)
 have e3 : decide ((n : Int) ≤ (m : Int)) = false:=by simp;omega
 have e4 : decide (m < n) = true:=by simpa using hmn
 have e5 : decide ((m : Int) < (n : Int)) = true:=by simp;omega
 have e6 : (m : Int) < (n : Int):=by omega
 have hkm : ((List.range n).map fun (i : Nat) => (s (i : Int)).isSome)[m]? = some true:=by rw [List.getElem?_map,List.getElem?_range hmn,Option.map_some,hs];rfl
 obtain ⟨w1,hw1⟩ : ∃ w1,w1 = ((w.alloc (.cells #[.int .i64 (kd a),.int .i64 m,.slice p (ar a).length c] 24)).alloc (.cells #[.int .i64 (kd b),.int .i64 (nm b),.slice q (ar b).length d] 24)).alloc (.cells #[.slice (some ⟨tb,0,none⟩) n n,.slice (some ⟨kb,0,none⟩) n n] 76):=⟨_,rfl⟩
 have hf1 : Fr [] w w1:=by rw [hw1];exact (((Fr.refl _ _).alloc _).alloc _).alloc _
 have HF1:=hid hf1
 have L3:=hid (l3.keep0 hf1)
 have L4:=hid (l4.keep hf1 (by simp))
 have k0 : w1.cell? ⟨kb,m,none⟩ = some (.bool true):=L4.out.el hkm
 have kl : kb < w1.heap.size:=L4.out.lt
 have hLm : L[m]? = some u:=by rw [l2 m hmn,hs];rfl
 obtain ⟨p9,c9,ty9,y0,y1,y2,y3⟩:=L3.out.el hLm
 have yl : tb < w1.heap.size:=L3.out.lt
 have htu : TyV w1 (fun k => k < B) u [.int .i64 (kd u),.int .i64 (nm u),.slice p9 (ar u).length c9]:=(TyV.keep ty9 (hf0.trans (hf1.nil _)) (fun k hk hB2 => by simp at hk;omega))
 have HP1 : Hid (Blk w1 w.heap.size 24 #[.int .i64 (kd a),.int .i64 m,.slice p (ar a).length c]):=hid (by rw [hw1];exact ((Blk.new _ _ _).alloc _).alloc _)
 have HT1 : Hid (Blk w1 (w.heap.size + 1) 24 #[.int .i64 (kd b),.int .i64 (nm b),.slice q (ar b).length d]):=hid (by rw [hw1];exact (Blk.new_at (by simp)).alloc _)
 have HX1 : Hid (Blk w1 (w.heap.size + 2) 76 #[.slice (some ⟨tb,0,none⟩) n n,.slice (some ⟨kb,0,none⟩) n n]):=hid (by rw [hw1];exact Blk.new_at (by simp))
 obtain ⟨wd,hwd⟩ : ∃ wd,wd = w1.drew:=⟨_,rfl⟩
 have hfd : Fr [] w1 wd:=by rw [hwd];exact (Fr.refl _ _).drew
 have HCL:=hid (rsame_any _ _ _ u (Nat.le_refl _) b _ _ wd (htu.keep0 hfd) (hb.keep0 (hf1.trans hfd)))
 have HFW : Hid (Fr [] w wd):=hid (hf1.trans hfd)
 obtain ⟨W1,hW1⟩ : ∃ W1,W1 = w1:=⟨_,rfl⟩
 have k0':=k0
 have y0':=y0
 have y1':=y1
 have y2':=y2
 have yl':=yl
 rw [← hW1] at y0' y1' y2' yl' HP1 HT1 HX1 hwd
 have HW1:=hid (hW1.trans hw1)
 clear ha hb hm h5 hR l1 l2 l3 l4 l5 hkm y3 hs hf1 hf0 ty9 htu hLm L3 L4 y0 y1 y2 yl k0' hfd HF1 hW1
 subst hw1
 go_enter Try.func51,Try.ntmps51
 go_wp2_with fail
 rw [← HW1.out]
 clear k0 kl
 have x1 : W1.cell? ⟨w.heap.size,1,none⟩ = some (.int .i64 m):=HP1.out.cell 1
 have xl : w.heap.size < W1.heap.size:=HP1.out.lt
 have t0 : W1.cell? ⟨w.heap.size + 1,0,none⟩ = some (.int .i64 (kd b)):=HT1.out.cell 0
 have t1 : W1.cell? ⟨w.heap.size + 1,1,none⟩ = some (.int .i64 (nm b)):=HT1.out.cell 1
 have t2 : W1.cell? ⟨w.heap.size + 1,2,none⟩ = some (.slice q (ar b).length d):=HT1.out.cell 2
 have tl : w.heap.size + 1 < W1.heap.size:=HT1.out.lt
 have f0 : W1.cell? ⟨w.heap.size + 1 + 1,0,none⟩ = some (.slice (some ⟨tb,0,none⟩) n n):=HX1.out.cell 0
 have fl : w.heap.size + 1 + 1 < W1.heap.size:=HX1.out.lt
 go_region_law (go_simp;go_at_call 16;(try rw [← hwd]);(with_reducible refine HCL.out.mono ?_);rintro e w9 ⟨rfl,hf9⟩;have HF9:=hid (HFW.out.trans hf9);clear hf9)
 all_goals
  clear x1 xl t0 t1 t2 tl f0 fl y0' y1' y2' yl'
  go_wp2_with fail
  go_ret
  exact MatR.stay HFD.out HF9.out
set_option maxRecDepth 100000 in
set_option maxHeartbeats 1600000 in
theorem rmatch_clash1 (w0 : World) (B n tb kb : Nat) (a b : Ty) (s : Int → Option Ty) (cs ds : List Value) (w : World) (ha : TyV w (fun _ => True) a cs) (hb : TyV w (fun _ => True) b ds) (h5 : kd a ≠ 5) (h1 : kd a ≠ kd b) :
  Calls Try.prog 51 #[.agg cs.toArray,.agg ds.toArray,.agg #[.slice (some ⟨tb,0,none⟩) n n,.slice (some ⟨kb,0,none⟩) n n]] w (MatR w0 B n tb kb (s,false) w):=by
 obtain ⟨p,c,rfl,hta⟩:=ha.shape
 obtain ⟨q,d,rfl,htb⟩:=hb.shape
 have e1 : (kd a == 5) = false:=by simp [h5]
 have e3 : (kd a != kd b) = true:=by simpa using h1
 have done : ∀ o : Obj,∀ o' o'',MatR w0 B n tb kb (s,false) w (.returned (.bool false)) (((w.alloc o).alloc o').alloc o''):=fun o o' o'' => ⟨rfl,(((Fr.refl _ _).alloc _).alloc _).alloc _,fun h => by cases h⟩
 clear ha hb hta htb h5 h1
 go_enter Try.func51,Try.ntmps51
 go_wp2_with fail
 go_ret
 exact done _ _ _
set_option maxRecDepth 100000 in
set_option maxHeartbeats 1600000 in
theorem rmatch_clash2 (w0 : World) (B n tb kb : Nat) (a b : Ty) (s : Int → Option Ty) (cs ds : List Value) (w : World) (ha : TyV w (fun _ => True) a cs) (hb : TyV w (fun _ => True) b ds) (h5 : kd a ≠ 5) (h1 : kd a = kd b) (h2 : nm a ≠ nm b) :
  Calls Try.prog 51 #[.agg cs.toArray,.agg ds.toArray,.agg #[.slice (some ⟨tb,0,none⟩) n n,.slice (some ⟨kb,0,none⟩) n n]] w (MatR w0 B n tb kb (s,false) w):=by
 obtain ⟨p,c,rfl,hta⟩:=ha.shape
 obtain ⟨q,d,rfl,htb⟩:=hb.shape
 have e1 : (kd a == 5) = false:=by simp [h5]
 have e3 : (kd a != kd b) = false:=by simp [h1]
 have e4 : (nm a != nm b) = true:=by simpa using h2
 have done : ∀ o : Obj,∀ o' o'',MatR w0 B n tb kb (s,false) w (.returned (.bool false)) (((w.alloc o).alloc o').alloc o''):=fun o o' o'' => ⟨rfl,(((Fr.refl _ _).alloc _).alloc _).alloc _,fun h => by cases h⟩
 clear ha hb hta htb h5 h1 h2
 go_enter Try.func51,Try.ntmps51
 go_wp2_with fail
 go_ret
 exact done _ _ _
set_option maxRecDepth 100000 in
set_option maxHeartbeats 1600000 in
theorem rmatch_clash3 (w0 : World) (B n tb kb : Nat) (a b : Ty) (s : Int → Option Ty) (cs ds : List Value) (w : World) (ha : TyV w (fun _ => True) a cs) (hb : TyV w (fun _ => True) b ds) (h5 : kd a ≠ 5) (h1 : kd a = kd b) (h2 : nm a = nm b) (h3 : (ar a).length ≠ (ar b).length) :
  Calls Try.prog 51 #[.agg cs.toArray,.agg ds.toArray,.agg #[.slice (some ⟨tb,0,none⟩) n n,.slice (some ⟨kb,0,none⟩) n n]] w (MatR w0 B n tb kb (s,false) w):=by
 obtain ⟨p,c,rfl,hta⟩:=ha.shape
 obtain ⟨q,d,rfl,htb⟩:=hb.shape
 have e1 : (kd a == 5) = false:=by simp [h5]
 have e3 : (kd a != kd b) = false:=by simp [h1]
 have e4 : (nm a != nm b) = false:=by simp [h2]
 have e5 : ((ar a).length != (ar b).length) = true:=by simpa using h3
 have e6 : (((ar a).length : Int) != ((ar b).length : Int)) = true:=by simp;omega
 have done : ∀ o : Obj,∀ o' o'',MatR w0 B n tb kb (s,false) w (.returned (.bool false)) (((w.alloc o).alloc o').alloc o''):=fun o o' o'' => ⟨rfl,(((Fr.refl _ _).alloc _).alloc _).alloc _,fun h => by cases h⟩
 clear ha hb hta htb h5 h1 h2 h3
 go_enter Try.func51,Try.ntmps51
 go_wp2_with fail
 go_ret
 exact done _ _ _
set_option maxRecDepth 100000 in
set_option maxHeartbeats 3200000 in
theorem rmatch_args (w0 : World) (B n tb kb : Nat) (hB : B ≤ tb ∧ B ≤ kb) (a b : Ty) (s : Int → Option Ty) (cs ds : List Value) (w : World) (ha : TyV w (fun k => k < B) a cs) (hb : TyV w (fun k => k < B) b ds) (hf : RFd w0 B n tb kb s w) (h5 : kd a ≠ 5) (h1 : kd a = kd b) (h2 : nm a = nm b) (z : Nat) (h3 : (ar a).length = z) (h4 : (ar b).length = z)
  (ih : ∀ x ∈ ar a,∀ y ∈ ar b,∀ (s : Int → Option Ty) (cs ds : List Value) (wx : World),Fr [tb,kb] w wx → TyV wx (fun k => k < B) x cs → TyV wx (fun k => k < B) y ds → RFd w0 B n tb kb s wx → Calls Try.prog 51 #[.agg cs.toArray,.agg ds.toArray,.agg #[.slice (some ⟨tb,0,none⟩) n n,.slice (some ⟨kb,0,none⟩) n n]] wx (MatR w0 B n tb kb (Un.mt n x y s) wx)) :
  Calls Try.prog 51 #[.agg cs.toArray,.agg ds.toArray,.agg #[.slice (some ⟨tb,0,none⟩) n n,.slice (some ⟨kb,0,none⟩) n n]] w (MatR w0 B n tb kb (mts n (ar a) (ar b) s) w):=by
 obtain ⟨p,c,rfl,hta⟩:=ha.shape
 obtain ⟨q,d,rfl,htb⟩:=hb.shape
 have e1 : (kd a == 5) = false:=by simp [h5]
 have e3 : (kd a != kd b) = false:=by simp [h1]
 have e4 : (nm a != nm b) = false:=by simp [h2]
 have e5 : ((z : Int) != (z : Int)) = false:=by simp
 obtain ⟨R,hR⟩ : ∃ R,R = mts n (ar a) (ar b) s:=⟨_,rfl⟩
 rw [← hR]
 have HR:=hid hR.symm
 have HFD:=hid hf
 have IH:=hid ih
 have HTA:=hid hta
 have HTB:=hid htb
 have HLT:=hid hf.lts
 have HBB:=hid hB
 have hzl : z ≤ 2 ^ 63 - 1:=by have:=hta.len;unfold maxLen at this;rw [← h3];exact this
 obtain ⟨l,hl⟩ : ∃ l,l = ar a:=⟨_,rfl⟩
 obtain ⟨m,hm⟩ : ∃ m,m = ar b:=⟨_,rfl⟩
 have H3 : Hid (l.length = z):=hid (by rw [hl];exact h3)
 have H4 : Hid (m.length = z):=hid (by rw [hm];exact h4)
 rw [← hl] at HR IH HTA
 rw [← hm] at HR IH HTB
 rw [H3.out] at HTA
 rw [H4.out] at HTB
 obtain ⟨w1,hw1⟩ : ∃ w1,w1 = ((w.alloc (.cells #[.int .i64 (kd a),.int .i64 (nm a),.slice p z c] 24)).alloc (.cells #[.int .i64 (kd b),.int .i64 (nm b),.slice q z d] 24)).alloc (.cells #[.slice (some ⟨tb,0,none⟩) n n,.slice (some ⟨kb,0,none⟩) n n] 76):=⟨_,rfl⟩
 have HF1 : Hid (Fr [] w w1):=hid (by rw [hw1];exact (((Fr.refl _ _).alloc _).alloc _).alloc _)
 have HP1 : Hid (Blk w1 w.heap.size 24 #[.int .i64 (kd a),.int .i64 (nm a),.slice p z c]):=hid (by rw [hw1];exact ((Blk.new _ _ _).alloc _).alloc _)
 have HT1 : Hid (Blk w1 (w.heap.size + 1) 24 #[.int .i64 (kd b),.int .i64 (nm b),.slice q z d]):=hid (by rw [hw1];exact (Blk.new_at (by simp)).alloc _)
 have HX1 : Hid (Blk w1 (w.heap.size + 1 + 1) 76 #[.slice (some ⟨tb,0,none⟩) n n,.slice (some ⟨kb,0,none⟩) n n]):=hid (by rw [hw1];exact Blk.new_at (by simp))
 rw [h3,h4]
 clear ha hb hf h5 h1 h2 h3 h4 ih hta htb hR hl hm hB
 go_enter Try.func51,Try.ntmps51
 go_wp2_with fail
 rw [← hw1]
 clear hw1
 go_loopw [7] (fun x wr => ∃ (j : Nat) (sj : Int → Option Ty),x = .int .i64 j ∧ j ≤ z ∧ Hid (mts n (l.drop j) (m.drop j) sj = R) ∧ Hid (Fr [tb,kb] w wr) ∧ Hid (RFd w0 B n tb kb sj wr) ∧ Hid (Blk wr w.heap.size 24 #[.int .i64 (kd a),.int .i64 (nm a),.slice p z c]) ∧ Hid (Blk wr (w.heap.size + 1) 24 #[.int .i64 (kd b),.int .i64 (nm b),.slice q z d]) ∧ Hid (Blk wr (w.heap.size + 1 + 1) 76 #[.slice (some ⟨tb,0,none⟩) n n,.slice (some ⟨kb,0,none⟩) n n])) (fun x _ => z - (RowKit.intOf x).toNat)
 case atStart => exact ⟨0,s,rfl,Nat.zero_le _,HR,hid (HF1.out.nil _),hid (HFD.out.keep0 HF1.out),HP1,HT1,HX1⟩
 case round =>
  obtain ⟨j,sj,rfl,hj,HQ,HFR,HRD,HPR,HTR,HXR⟩:=hrel
  have t2 : wr.cell? ⟨w.heap.size + 1,2,none⟩ = some (.slice q z d):=HTR.out.cell 2
  have tl : w.heap.size + 1 < wr.heap.size:=HTR.out.lt
  by_cases hlt : j < z
  ·have hd2 : decide ((j : Int) < (z : Int)) = true:=by simp;omega
   have hd3 : decide (j < z) = true:=by simpa using hlt
   have hd4 : (j : Int) < (z : Int):=by omega
   obtain ⟨xa,hxa⟩ : ∃ xa,l[j]? = some xa:=⟨_,List.getElem?_eq_getElem (by rw [H3.out];exact hlt)⟩
   obtain ⟨ya,hya⟩ : ∃ ya,m[j]? = some ya:=⟨_,List.getElem?_eq_getElem (by rw [H4.out];exact hlt)⟩
   have hX : ∀ k ∈ [tb,kb],¬ k < B:=fun k hk => by have:=HBB.out;simp at hk;omega
   have hat1 : ∃ b1 o1,p = some ⟨b1,o1,none⟩ ∧ TysAt w (fun k => k < B) l b1 o1:=TysV.elem (s:=l) (n:=z) HTA.out hxa
   have hat2 : ∃ b2 o2,q = some ⟨b2,o2,none⟩ ∧ TysAt w (fun k => k < B) m b2 o2:=TysV.elem (s:=m) (n:=z) HTB.out hya
   obtain ⟨b1,o1,rfl,hat1⟩:=hat1
   obtain ⟨b2,o2,rfl,hat2⟩:=hat2
   obtain ⟨wd,hwd⟩ : ∃ wd,wd = wr.drew:=⟨_,rfl⟩
   have hfd : Fr [] wr wd:=by rw [hwd];exact (Fr.refl _ _).drew
   obtain ⟨q1,d1,k1,hb1,g0,g1,g2⟩:=hat1.el HFR.out hX hxa
   obtain ⟨q2,d2,k2,hb2,i0,i1,i2⟩:=hat2.el HFR.out hX hya
   have hdl : l.drop j = xa :: l.drop (j + 1):=by
    have hjl:=(List.getElem?_eq_some_iff.1 hxa).1
    rw [List.drop_eq_getElem_cons hjl]
    congr 1
    exact (List.getElem?_eq_some_iff.1 hxa).2
   have hdm : m.drop j = ya :: m.drop (j + 1):=by
    have hjl:=(List.getElem?_eq_some_iff.1 hya).1
    rw [List.drop_eq_getElem_cons hjl]
    congr 1
    exact (List.getElem?_eq_some_iff.1 hya).2
   have hq:=HQ.out
   rw [hdl,hdm,mts] at hq
   have HCL:=hid (IH.out xa (List.mem_of_getElem? hxa) ya (List.mem_of_getElem? hya) sj _ _ wd (HFR.out.trans (hfd.nil _)) (k1.keep0 hfd) (k2.keep0 hfd) (HRD.out.keep0 hfd))
   obtain ⟨r1,hr1⟩ : ∃ r1,r1 = Un.mt n xa ya sj:=⟨_,rfl⟩
   rw [← hr1] at hq HCL
   have p2 : wr.cell? ⟨w.heap.size,2,none⟩ = some (.slice (some ⟨b1,o1,none⟩) z c):=HPR.out.cell 2
   have pl : w.heap.size < wr.heap.size:=HPR.out.lt
   have f0 : wr.cell? ⟨w.heap.size + 1 + 1,0,none⟩ = some (.slice (some ⟨tb,0,none⟩) n n):=HXR.out.cell 0
   have f1 : wr.cell? ⟨w.heap.size + 1 + 1,1,none⟩ = some (.slice (some ⟨kb,0,none⟩) n n):=HXR.out.cell 1
   have fl : w.heap.size + 1 + 1 < wr.heap.size:=HXR.out.lt
   have HFW : Hid (Fr [tb,kb] w wd):=hid (HFR.out.trans (hfd.nil _))
   have HPD:=hid (HPR.out.keep hfd (by simp))
   have HTD:=hid (HTR.out.keep hfd (by simp))
   have HXD:=hid (HXR.out.keep hfd (by simp))
   obtain ⟨s1,v1⟩:=r1
   simp only at hq
   clear k1 k2 hat1 hat2 hdl hdm hxa hya HQ hX hr1 hfd
   cases v1 with
   | false =>
    simp only [Bool.false_eq_true,if_false] at hq
    have HRQ:=hid hq
    clear hq
    go_wp2_with fail
    go_region_law (go_simp;go_at_call 51;(try rw [← hwd]);(with_reducible refine HCL.out.mono ?_);rintro e w9 ⟨rfl,hf9,hr9⟩;have HF9:=hid (HFW.out.trans hf9);clear hf9 hr9)
    all_goals
     clear g0 g1 g2 i0 i1 i2 p2 pl t2 tl f0 f1 fl hb1 hb2
     go_wp2_with fail
     go_ret
     exact ⟨by rw [← HRQ.out];rfl,HF9.out,fun h => by rw [← HRQ.out] at h;cases h⟩
   | true =>
    simp only [if_true] at hq
    have HRQ:=hid hq
    clear hq
    go_wp2_with fail
    go_region_law (go_simp;go_at_call 51;(try rw [← hwd]);(with_reducible refine HCL.out.mono ?_);rintro e w9 ⟨rfl,hf9,hr9⟩;have HF9:=hid (HFW.out.trans hf9);have HR9:=hid (hr9 rfl);have hnp:=HLT.out;have HP9:=hid (HPD.out.keep hf9 (by simp;omega));have HT9:=hid (HTD.out.keep hf9 (by simp;omega));have HX9:=hid (HXD.out.keep hf9 (by simp;omega));clear hf9 hr9 hnp)
    all_goals
     clear g0 g1 g2 i0 i1 i2 p2 pl t2 tl f0 f1 fl hb1 hb2
     go_wp2_with fail
     go_roundw
     case rel => exact ⟨j + 1,s1,by go_num,by omega,HRQ,HF9,HR9,HP9,HT9,HX9⟩
     case measure => simp [RowKit.intOf];omega
  ·have hd2 : decide ((j : Int) < (z : Int)) = false:=by simp;omega
   have hd3 : decide (j < z) = false:=by simpa using hlt
   obtain rfl : j = z:=by omega
   have hq:=HQ.out
   rw [List.drop_eq_nil_of_le (by rw [H3.out];exact Nat.le_refl _),mts] at hq
   have HRQ:=hid hq
   clear hq
   go_wp2_with fail
   go_ret
   exact ⟨by rw [← HRQ.out];rfl,HFR.out,fun _ => by rw [← HRQ.out];exact HRD.out⟩
theorem rmatch_any (w0 : World) (B n tb kb : Nat) (hn : n ≤ 4) (hne : tb ≠ kb) (hB : B ≤ tb ∧ B ≤ kb) (hB0 : B ≤ w0.heap.size) : ∀ (z : Nat) (a : Ty),size a ≤ z → ∀ (b : Ty) (s : Int → Option Ty) (cs ds : List Value) (w : World),Fr [tb,kb] w0 w → TyV w (fun k => k < B) a cs → TyV w (fun k => k < B) b ds → RFd w0 B n tb kb s w →
  Calls Try.prog 51 #[.agg cs.toArray,.agg ds.toArray,.agg #[.slice (some ⟨tb,0,none⟩) n n,.slice (some ⟨kb,0,none⟩) n n]] w (MatR w0 B n tb kb (Un.mt n a b s) w):=by
 intro z
 induction z with
 | zero => intro a h;exact absurd (Un.size_pos a) (by omega)
 | succ z ih =>
  intro a hz b s cs ds w hf0 ha hb hf
  have hX : ∀ k ∈ [tb,kb],¬ k < B:=fun k hk => by simp at hk;omega
  have ha1:=ha
  have hb1:=hb
  have hb0 : TyV w0 (fun k => k < B) b ds:=InN.mono (fun k hk hl => ⟨hk,by omega,(hf0.block k (by omega) (fun hx => hX k hx hk)).symm⟩) hb
  have haT : TyV w (fun _ => True) a cs:=TyV.weak ha1 (fun _ _ _ => trivial)
  have hbT : TyV w (fun _ => True) b ds:=TyV.weak hb1 (fun _ _ _ => trivial)
  by_cases h5 : kd a = 5
  ·by_cases ho : nm a < 0 ∨ (n : Int) ≤ nm a
   ·exact rmatch_out w0 B n tb kb hn a b s cs ds w haT hbT hf h5 ho
   ·obtain ⟨m,hm⟩ : ∃ m : Nat,nm a = m:=⟨(nm a).toNat,by omega⟩
    have hmn : m < n:=by omega
    cases hs : s m with
    | none => exact rmatch_new w0 B n tb kb hn hne a b s cs ds w haT hb0 hf h5 m hm hmn hs
    | some u => exact rmatch_known w0 B n tb kb hn hB a b s cs ds w haT hbT hf0 hf h5 m hm hmn u hs
  ·rw [mt_str h5]
   by_cases h1 : kd a = kd b
   ·by_cases h2 : nm a = nm b
    ·rw [if_pos (by simp [h1,h2])]
     by_cases h3 : (ar a).length = (ar b).length
     ·rw [if_pos h3]
      exact rmatch_args w0 B n tb kb hB a b s cs ds w ha1 hb1 hf h5 h1 h2 _ h3 rfl (fun x hx y hy s' cs' ds' wx hfx hx2 hy2 hfd => ih x (by have:=size_ar hx;omega) y s' cs' ds' wx (hf0.trans hfx) hx2 hy2 hfd)
     ·rw [if_neg h3]
      exact rmatch_clash3 w0 B n tb kb a b s cs ds w haT hbT h5 h1 h2 h3
    ·rw [if_neg (by simp [h2])]
     exact rmatch_clash2 w0 B n tb kb a b s cs ds w haT hbT h5 h1 h2
   ·rw [if_neg (by simp [h1])]
    exact rmatch_clash1 w0 B n tb kb a b s cs ds w haT hbT h5 h1
end Go.Proofs.Ytcdlnhfgehhkcaa
