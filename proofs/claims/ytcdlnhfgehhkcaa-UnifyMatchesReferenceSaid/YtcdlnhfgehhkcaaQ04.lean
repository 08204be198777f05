/- part of the proof -/
import Derived.Test.YtcdlnhfgehhkcaaQ03
set_option linter.unusedVariables false
set_option linter.unusedSimpArgs false
set_option linter.unusedSectionVars false
namespace Go.Proofs.Ytcdlnhfgehhkcaa
open Go.RowKit Go.Lib
open Un (kd nm ar size sizes depth depths few fews small)
theorem isstored_any (a : Ty) (cs : List Value) (w : World) (N : Nat → Prop) (h : TyV w N a cs) : Calls Try.prog 94 #[.agg cs.toArray] w (LookP (Un.stored a) w):=by
 obtain ⟨p,c,rfl,_⟩:=h.shape
 clear h
 obtain ⟨k,hk⟩ : ∃ k,k = kd a:=⟨_,rfl⟩
 have hs : Un.stored a = (decide (1 ≤ k) && decide (k ≤ 5)):=by unfold Un.stored;rw [hk]
 rw [hs,← hk]
 clear hs hk
 by_cases h : k = 1 ∨ k = 2 ∨ k = 3 ∨ k = 4 ∨ k = 5
 ·rcases h with rfl | rfl | rfl | rfl | rfl
  all_goals
   go_enter Try.func94,Try.ntmps94
   go_wp2_with fail
   go_ret
   exact ⟨rfl,(Fr.refl _ _).alloc _⟩
 ·have e1 : (k == 1) = false:=by simp;omega
  have e2 : (k == 2) = false:=by simp;omega
  have e3 : (k == 3) = false:=by simp;omega
  have e4 : (k == 4) = false:=by simp;omega
  have e5 : (k == 5) = false:=by simp;omega
  have hr : (decide (1 ≤ k) && decide (k ≤ 5)) = false:=by simp;omega
  have HR:=hid hr
  clear h hr
  go_enter Try.func94,Try.ntmps94
  go_wp2_with fail
  go_ret
  exact ⟨by rw [HR.out];rfl,(Fr.refl _ _).alloc _⟩
theorem rstored_any (a : Ty) (cs : List Value) (w : World) (N : Nat → Prop) (h : TyV w N a cs) : Calls Try.prog 24 #[.agg cs.toArray] w (LookP (Un.stored a) w):=by
 obtain ⟨p,c,rfl,_⟩:=h.shape
 clear h
 obtain ⟨k,hk⟩ : ∃ k,k = kd a:=⟨_,rfl⟩
 have hs : Un.stored a = (decide (1 ≤ k) && decide (k ≤ 5)):=by unfold Un.stored;rw [hk]
 rw [hs,← hk]
 clear hs hk
 by_cases h : 1 ≤ k
 ·have e1 : decide (1 ≤ k) = true:=by simpa using h
  have hr : (decide (1 ≤ k) && decide (k ≤ 5)) = decide (k ≤ 5):=by rw [e1];rfl
  rw [hr]
  clear h hr
  go_enter Try.func24,Try.ntmps24
  go_wp2_with fail
  go_ret
  exact ⟨rfl,(Fr.refl _ _).alloc _⟩
 ·have e1 : decide (1 ≤ k) = false:=by simpa using h
  have hr : (decide (1 ≤ k) && decide (k ≤ 5)) = false:=by rw [e1];rfl
  rw [hr]
  clear h hr
  go_enter Try.func24,Try.ntmps24
  go_wp2_with fail
  go_ret
  exact ⟨rfl,(Fr.refl _ _).alloc _⟩
def NumP (n : Int) (w : World) (e : Ending) (w' : World) : Prop:=e = .returned (.int .i64 n) ∧ Fr [] w w'
theorem depths_take {l : List Ty} {i : Nat} (hi : i < l.length) : depths (l.take (i + 1)) = max (depths (l.take i)) (depth l[i]):=by
 rw [List.take_succ_eq_append_getElem hi]
 have key : ∀ (l : List Ty) (a : Ty),depths (l ++ [a]) = max (depths l) (depth a):=by
  intro l a
  induction l with
  | nil => simp only [List.nil_append,depths];omega
  | cons b r ih => rw [List.cons_append,depths,ih,depths];omega
 exact key _ _
theorem depths_small {l : List Ty} {i : Nat} : depths (l.take i) ≤ sizes l:=Un.depths_le.2 fun a ha => Nat.le_trans (Un.depth_size a) (Un.size_mem (List.mem_of_mem_take ha))
theorem size_eq (t : Ty) : size t = sizes (ar t) + 1:=by cases t;rw [size];rfl
theorem depth_eq (t : Ty) : depth t = depths (ar t) + 1:=by cases t;rw [depth];rfl
set_option maxRecDepth 100000 in
set_option maxHeartbeats 1600000 in
theorem depthof_any (N : Nat → Prop) : ∀ (n : Nat) (a : Ty),size a ≤ n → n ≤ 100000 → ∀ (cs : List Value) (w : World),TyV w N a cs → Calls Try.prog 84 #[.agg cs.toArray] w (NumP (depth a) w):=by
 intro n
 induction n with
 | zero => intro t h;exact absurd (Un.size_pos t) (by omega)
 | succ n ih =>
  intro a hn hn1 cs w h
  have IH : Hid (∀ x ∈ ar a,∀ (cs : List Value) (w : World),TyV w N x cs → Calls Try.prog 84 #[.agg cs.toArray] w (NumP (depth x) w)):=hid fun x hx => ih x (by have:=size_ar hx;omega) (by omega)
  have HD:=hid (depth_eq a)
  have hsm : sizes (ar a) ≤ 100000:=by have:=size_eq a;omega
  obtain ⟨p,c,rfl,ha⟩:=h.shape
  have hlm : (ar a).length ≤ 100000:=Nat.le_trans (Un.sizes_len _) hsm
  have HA:=hid ha
  obtain ⟨l,hl⟩ : ∃ l,l = ar a:=⟨_,rfl⟩
  rw [← hl] at IH HD hsm hlm HA ⊢
  clear h ha ih hn hn1 hl
  go_enter Try.func84,Try.ntmps84
  go_wp2_with fail
  obtain ⟨w1,hw1⟩ : ∃ w1,w1 = w.alloc (.cells #[.int .i64 (kd a),.int .i64 (nm a),.slice p l.length c] 24):=⟨_,rfl⟩
  have HF0 : Hid (Fr [] w w1):=hid (by rw [hw1];exact (Fr.refl _ _).alloc _)
  rw [← hw1]
  clear hw1
  go_loopw [3,9] (fun d v wr => ∃ i : Nat,v = .int .i64 i ∧ i ≤ l.length ∧ d = .int .i64 (depths (l.take i)) ∧ Hid (Fr [] w wr)) (fun _ v _ => l.length - (RowKit.intOf v).toNat)
  case atStart => exact ⟨0,rfl,by omega,by rw [List.take_zero,depths];rfl,HF0⟩
  case round =>
   obtain ⟨i,rfl,hi,rfl,HFR⟩:=hrel
   have hds : depths (l.take i) ≤ 100000:=Nat.le_trans depths_small hsm
   by_cases hlt : i < l.length
   ·have hd2 : decide ((i : Int) < (l.length : Int)) = true:=by simp;omega
    have hd3 : decide (i < l.length) = true:=by simpa using hlt
    obtain ⟨b,o,rfl,hat⟩ : ∃ b o,p = some ⟨b,o,none⟩ ∧ TysAt w N l b o:=by
     rcases HA.out.cases with ⟨rfl,_⟩ | ⟨_,b,o,cap,heq,_,_,hat⟩
     ·simp at hlt
     ·simp only [Value.slice.injEq] at heq
      exact ⟨b,o,heq.1,hat⟩
    obtain ⟨p1,c1,k1,hb,g0,g1,g2⟩:=hat.el HFR.out (by simp) (List.getElem?_eq_getElem hlt)
    have K1:=hid k1
    have HDT:=hid (depths_take hlt)
    obtain ⟨x,hx⟩ : ∃ x,x = l[i]:=⟨_,rfl⟩
    have HMX : Hid (x ∈ l):=hid (by rw [hx];exact List.getElem_mem _)
    rw [← hx] at g0 g1 g2 K1 HDT
    have hdx : depth x ≤ 100000:=Nat.le_trans (Nat.le_trans (Un.depth_size x) (Un.size_mem HMX.out)) hsm
    clear k1 hat hx
    go_wp2_with fail
    have hf0 : Fr [] wr (wr.alloc (.cells #[.int .i64 (kd x),.int .i64 (nm x),.slice p1 (ar x).length c1] 24)):=(Fr.refl _ _).alloc _
    refine (IH.out x HMX.out _ _ (K1.out.keep0 hf0)).mono ?_
    rintro e w2 ⟨rfl,hf2⟩
    have HF2:=hid (HFR.out.trans (hf0.trans hf2))
    clear hf0 hf2 g0 g1 g2
    go_wp2_with fail
    go_roundw
    case rel => exact ⟨i + 1,by go_num,by omega,by rw [HDT.out];congr 1;omega,HF2⟩
    case measure => simp [RowKit.intOf];omega
   ·have hd2 : decide ((i : Int) < (l.length : Int)) = false:=by simp;omega
    have hd3 : decide (i < l.length) = false:=by simpa using hlt
    obtain rfl : i = l.length:=by omega
    go_wp2_with fail
    go_ret
    refine ⟨?_,HFR.out⟩
    rw [HD.out]
    have e : depths (l.take l.length) = depths l:=by rw [List.take_length]
    rw [← e]
    show Ending.returned (.int .i64 _) = _
    congr 2
    unfold wrap64
    omega
set_option maxRecDepth 100000 in
set_option maxHeartbeats 1600000 in
theorem rdepth_any (N : Nat → Prop) : ∀ (n : Nat) (a : Ty),size a ≤ n → n ≤ 100000 → ∀ (cs : List Value) (w : World),TyV w N a cs → Calls Try.prog 25 #[.agg cs.toArray] w (NumP (depth a) w):=by
 intro n
 induction n with
 | zero => intro t h;exact absurd (Un.size_pos t) (by omega)
 | succ n ih =>
  intro a hn hn1 cs w h
  have IH : Hid (∀ x ∈ ar a,∀ (cs : List Value) (w : World),TyV w N x cs → Calls Try.prog 25 #[.agg cs.toArray] w (NumP (depth x) w)):=hid fun x hx => ih x (by have:=size_ar hx;omega) (by omega)
  have HD:=hid (depth_eq a)
  have hsm : sizes (ar a) ≤ 100000:=by have:=size_eq a;omega
  obtain ⟨p,c,rfl,ha⟩:=h.shape
  have hlm : (ar a).length ≤ 100000:=Nat.le_trans (Un.sizes_len _) hsm
  have HA:=hid ha
  obtain ⟨l,hl⟩ : ∃ l,l = ar a:=⟨_,rfl⟩
  rw [← hl] at IH HD hsm hlm HA ⊢
  clear h ha ih hn hn1 hl
  go_enter Try.func25,Try.ntmps25
  go_wp2_with fail
  obtain ⟨w1,hw1⟩ : ∃ w1,w1 = w.alloc (.cells #[.int .i64 (kd a),.int .i64 (nm a),.slice p l.length c] 24):=⟨_,rfl⟩
  have HF0 : Hid (Fr [] w w1):=hid (by rw [hw1];exact (Fr.refl _ _).alloc _)
  have HB0 : Hid (Blk w1 w.heap.size 24 #[.int .i64 (kd a),.int .i64 (nm a),.slice p l.length c]):=hid (by rw [hw1];exact Blk.new _ _ _)
  rw [← hw1]
  clear hw1
  go_loopw [3,4] (fun d v wr => ∃ i : Nat,v = .int .i64 i ∧ i ≤ l.length ∧ d = .int .i64 (depths (l.take i)) ∧ Hid (Fr [] w wr) ∧ Hid (Blk wr w.heap.size 24 #[.int .i64 (kd a),.int .i64 (nm a),.slice p l.length c])) (fun _ v _ => l.length - (RowKit.intOf v).toNat)
  case atStart => exact ⟨0,rfl,by omega,by rw [List.take_zero,depths];rfl,HF0,HB0⟩
  case round =>
   obtain ⟨i,rfl,hi,rfl,HFR,HBR⟩:=hrel
   have hds : depths (l.take i) ≤ 100000:=Nat.le_trans depths_small hsm
   have hbl : w.heap.size < wr.heap.size:=HBR.out.lt
   have b2 : wr.cell? ⟨w.heap.size,2,none⟩ = some (.slice p l.length c):=HBR.out.cell 2
   by_cases hlt : i < l.length
   ·have hd2 : decide ((i : Int) < (l.length : Int)) = true:=by simp;omega
    have hd3 : decide (i < l.length) = true:=by simpa using hlt
    obtain ⟨b,o,rfl,hat⟩ : ∃ b o,p = some ⟨b,o,none⟩ ∧ TysAt w N l b o:=by
     rcases HA.out.cases with ⟨rfl,_⟩ | ⟨_,b,o,cap,heq,_,_,hat⟩
     ·simp at hlt
     ·simp only [Value.slice.injEq] at heq
      exact ⟨b,o,heq.1,hat⟩
    obtain ⟨p1,c1,k1,hb,g0,g1,g2⟩:=hat.el HFR.out (by simp) (List.getElem?_eq_getElem hlt)
    have K1:=hid k1
    have HDT:=hid (depths_take hlt)
    obtain ⟨x,hx⟩ : ∃ x,x = l[i]:=⟨_,rfl⟩
    have HMX : Hid (x ∈ l):=hid (by rw [hx];exact List.getElem_mem _)
    rw [← hx] at g0 g1 g2 K1 HDT
    have hdx : depth x ≤ 100000:=Nat.le_trans (Nat.le_trans (Un.depth_size x) (Un.size_mem HMX.out)) hsm
    clear k1 hat hx
    go_wp2_with fail
    refine (IH.out x HMX.out _ _ K1.out).mono ?_
    rintro e w2 ⟨rfl,hf2⟩
    have HF2:=hid (HFR.out.trans hf2)
    have HB2:=hid (HBR.out.keep hf2 (by simp))
    clear hf2 g0 g1 g2 b2 hbl
    go_wp2_with fail
    go_roundw
    case rel => exact ⟨i + 1,by go_num,by omega,by rw [HDT.out];congr 1;omega,HF2,HB2⟩
    case measure => simp [RowKit.intOf];omega
   ·have hd2 : decide ((i : Int) < (l.length : Int)) = false:=by simp;omega
    have hd3 : decide (i < l.length) = false:=by simpa using hlt
    obtain rfl : i = l.length:=by omega
    go_wp2_with fail
    go_ret
    refine ⟨?_,HFR.out⟩
    rw [HD.out]
    have e : depths (l.take l.length) = depths l:=by rw [List.take_length]
    rw [← e]
    show Ending.returned (.int .i64 _) = _
    congr 2
    all_goals first | omega | (unfold wrap64;omega)
open Un (kd nm ar size sizes few fews small)
theorem few_eq (m : Int) (t : Ty) : few m t = fews m 1 (ar t):=by cases t;rw [few];rfl
theorem fews_end {m n : Int} {l : List Ty} {i : Nat} (h : l.length ≤ i) : fews m n (l.drop i) = n:=by rw [List.drop_eq_nil_of_le h,fews]
theorem fews_stop {m n : Int} {l : List Ty} (h : m < n) : fews m n l = n:=by
 cases l with
 | nil => rw [fews]
 | cons a r => rw [fews,if_neg (by omega)]
theorem fews_go {m n : Int} {l : List Ty} {i : Nat} (hi : i < l.length) (h : n ≤ m) : fews m n (l.drop i) = fews m (n + few (m - n) l[i]) (l.drop (i + 1)):=by
 rw [List.drop_eq_getElem_cons hi,fews,if_pos h]
set_option maxRecDepth 100000 in
set_option maxHeartbeats 1600000 in
theorem few_any (N : Nat → Prop) : ∀ (k : Nat) (a : Ty),size a ≤ k → ∀ (m : Int),0 ≤ m → m ≤ 1000 → ∀ (cs : List Value) (w : World),TyV w N a cs → Calls Try.prog 35 #[.agg cs.toArray,.int .i64 m] w (NumP (few m a) w):=by
 intro k
 induction k with
 | zero => intro t h;exact absurd (Un.size_pos t) (by omega)
 | succ k ih =>
  intro a hn m hm0 hm1 cs w h
  have IH : Hid (∀ x ∈ ar a,∀ (m : Int),0 ≤ m → m ≤ 1000 → ∀ (cs : List Value) (w : World),TyV w N x cs → Calls Try.prog 35 #[.agg cs.toArray,.int .i64 m] w (NumP (few m x) w)):=hid fun x hx => ih x (by have:=size_ar hx;omega)
  have HD:=hid (few_eq m a)
  obtain ⟨p,c,rfl,ha⟩:=h.shape
  have hlm:=ha.len
  unfold maxLen at hlm
  have HA:=hid ha
  obtain ⟨l,hl⟩ : ∃ l,l = ar a:=⟨_,rfl⟩
  rw [← hl] at IH HD hlm HA ⊢
  clear h ha ih hn hl
  go_enter Try.func35,Try.ntmps35
  go_wp2_with fail
  obtain ⟨w1,hw1⟩ : ∃ w1,w1 = w.alloc (.cells #[.int .i64 (kd a),.int .i64 (nm a),.slice p l.length c] 24):=⟨_,rfl⟩
  have HF0 : Hid (Fr [] w w1):=hid (by rw [hw1];exact (Fr.refl _ _).alloc _)
  have HB0 : Hid (Blk w1 w.heap.size 24 #[.int .i64 (kd a),.int .i64 (nm a),.slice p l.length c]):=hid (by rw [hw1];exact Blk.new _ _ _)
  rw [← hw1]
  clear hw1
  go_loopw [5,6] (fun d v wr => ∃ (i : Nat) (n : Int),v = .int .i64 i ∧ i ≤ l.length ∧ d = .int .i64 n ∧ 1 ≤ n ∧ n ≤ m + 1 ∧ Hid (few m a = fews m n (l.drop i)) ∧ Hid (Fr [] w wr) ∧ Hid (Blk wr w.heap.size 24 #[.int .i64 (kd a),.int .i64 (nm a),.slice p l.length c])) (fun _ v _ => l.length - (RowKit.intOf v).toNat)
  case atStart => exact ⟨0,1,rfl,by omega,rfl,by omega,by omega,HD,HF0,HB0⟩
  case round =>
   obtain ⟨i,n,rfl,hi,rfl,hn0,hn1,HQ,HFR,HBR⟩:=hrel
   have hbl : w.heap.size < wr.heap.size:=HBR.out.lt
   have b2 : wr.cell? ⟨w.heap.size,2,none⟩ = some (.slice p l.length c):=HBR.out.cell 2
   by_cases hlt : i < l.length
   ·have hd2 : decide ((i : Int) < (l.length : Int)) = true:=by simp;omega
    have hd3 : decide (i < l.length) = true:=by simpa using hlt
    by_cases hle : n ≤ m
    ·have hd4 : decide (n ≤ m) = true:=by simpa using hle
     obtain ⟨b,o,rfl,hat⟩ : ∃ b o,p = some ⟨b,o,none⟩ ∧ TysAt w N l b o:=by
      rcases HA.out.cases with ⟨rfl,_⟩ | ⟨_,b,o,cap,heq,_,_,hat⟩
      ·simp at hlt
      ·simp only [Value.slice.injEq] at heq
       exact ⟨b,o,heq.1,hat⟩
     obtain ⟨p1,c1,k1,hb,g0,g1,g2⟩:=hat.el HFR.out (by simp) (List.getElem?_eq_getElem hlt)
     have K1:=hid k1
     have HGO:=hid (fews_go (m:=m) hlt hle)
     obtain ⟨x,hx⟩ : ∃ x,x = l[i]:=⟨_,rfl⟩
     have HMX : Hid (x ∈ l):=hid (by rw [hx];exact List.getElem_mem _)
     rw [← hx] at g0 g1 g2 K1 HGO
     have hfb:=Un.few_bounds x (m - n) (by omega)
     have hf1 : 1 ≤ few (m - n) x:=hfb.1
     have hf2 : few (m - n) x ≤ m - n + 1:=hfb.2.1
     obtain ⟨y,hy⟩ : ∃ y,y = few (m - n) x:=⟨_,rfl⟩
     rw [← hy] at hf1 hf2 HGO
     have HY:=hid hy
     clear k1 hat hx hfb hy
     go_wp2_with fail
     refine (IH.out x HMX.out _ (by omega) (by omega) _ _ K1.out).mono ?_
     rintro e w2 ⟨rfl,hfr⟩
     rw [← HY.out]
     have HF2:=hid (HFR.out.trans hfr)
     have HB2:=hid (HBR.out.keep hfr (by simp))
     clear hfr g0 g1 g2 b2 hbl
     go_wp2_with fail
     go_roundw
     case rel => exact ⟨i + 1,n + y,by go_num,by omega,rfl,by omega,by omega,hid (by rw [HQ.out,HGO.out]),HF2,HB2⟩
     case measure => simp [RowKit.intOf];omega
    ·have hd4 : decide (n ≤ m) = false:=by simpa using hle
     have HS:=hid (fews_stop (m:=m) (n:=n) (l:=l.drop i) (by omega))
     go_wp2_with fail
     go_ret
     exact ⟨by rw [HQ.out,HS.out];rfl,HFR.out⟩
   ·have hd2 : decide ((i : Int) < (l.length : Int)) = false:=by simp;omega
    have hd3 : decide (i < l.length) = false:=by simpa using hlt
    have HS:=hid (fews_end (m:=m) (n:=n) (l:=l) (i:=i) (by omega))
    go_wp2_with fail
    go_ret
    exact ⟨by rw [HQ.out,HS.out];rfl,HFR.out⟩
set_option maxRecDepth 100000 in
set_option maxHeartbeats 1600000 in
theorem small_any (N : Nat → Prop) (l : List Ty) (v : Value) (w : World) (h : TysV w N l v) : Calls Try.prog 9 #[v] w (LookP (small l) w):=by
 have hlm:=h.len
 unfold maxLen at hlm
 rcases h.cases with ⟨rfl,p,c,rfl⟩ | ⟨hn,b,o,cap,rfl,hc,hm,hat⟩
 ·clear h
  simp only [List.length_nil] at hlm ⊢
  go_enter Try.func9,Try.ntmps9
  go_wp2_with fail
  go_loopw [3] (fun v wr => v = .int .i64 0 ∧ wr = w) (fun v _ => 0)
  case atStart => exact ⟨rfl,rfl⟩
  case round =>
   obtain ⟨rfl,rfl⟩:=hrel
   go_wp2_with fail
   go_ret
   exact ⟨rfl,Fr.refl _ _⟩
 ·have HA:=hid hat
  unfold maxLen at hm
  clear hat h
  go_enter Try.func9,Try.ntmps9
  go_wp2_with fail
  go_loopw [3] (fun v wr => ∃ i : Nat,v = .int .i64 i ∧ i ≤ l.length ∧ Hid (Fr [] w wr) ∧ Hid (∀ j,j < i → ∀ t,l[j]? = some t → few 30 t ≤ 30)) (fun v _ => l.length - (RowKit.intOf v).toNat)
  case atStart => exact ⟨0,rfl,by omega,hid (Fr.refl _ _),hid (fun j hj => by omega)⟩
  case round =>
   obtain ⟨i,rfl,hi,HFR,HG⟩:=hrel
   by_cases hlt : i < l.length
   ·have hd2 : decide ((i : Int) < (l.length : Int)) = true:=by simp;omega
    have hd3 : decide (i < l.length) = true:=by simpa using hlt
    obtain ⟨p1,c1,k1,hb,g0,g1,g2⟩:=HA.out.el HFR.out (by simp) (List.getElem?_eq_getElem hlt)
    have K1:=hid k1
    obtain ⟨a,ha⟩ : ∃ a,a = l[i]:=⟨_,rfl⟩
    have HMA : Hid (l[i]? = some a):=hid (by rw [ha];exact List.getElem?_eq_getElem _)
    rw [← ha] at g0 g1 g2 K1
    clear k1 ha
    go_wp2_with fail
    refine (few_any N (size a) a (Nat.le_refl _) 30 (by omega) (by omega) _ _ K1.out).mono ?_
    rintro e w2 ⟨rfl,hf2⟩
    have HF2:=hid (HFR.out.trans hf2)
    clear hf2 g0 g1 g2
    by_cases hgd : few 30 a ≤ 30
    ·have hd5 : decide (30 < few 30 a) = false:=by simpa using hgd
     have HB:=hid hgd
     clear hgd
     go_wp2_with fail
     go_roundw
     case rel => exact ⟨i + 1,by go_num,by omega,HF2,hid (fun j hj t ht => by
      by_cases hj' : j < i
      ·exact HG.out j hj' t ht
      ·obtain rfl : j = i:=by omega
       rw [HMA.out] at ht
       cases ht
       exact HB.out)⟩
     case measure => simp [RowKit.intOf];omega
    ·have hd5 : decide (30 < few 30 a) = true:=by simp;omega
     have hall : small l = false:=by
      unfold small
      have : l.all (fun t => decide (few 30 t ≤ 30)) = false:=by
       rw [List.all_eq_false]
       exact ⟨a,List.mem_of_getElem? HMA.out,by simpa using hgd⟩
      rw [this];rfl
     have HAL:=hid hall
     clear hgd hall
     go_wp2_with fail
     go_ret
     exact ⟨by rw [HAL.out];rfl,HF2.out⟩
   ·have hd2 : decide ((i : Int) < (l.length : Int)) = false:=by simp;omega
    have hd3 : decide (i < l.length) = false:=by simpa using hlt
    have hall : small l = decide (l.length ≤ 8):=by
     unfold small
     have : l.all (fun t => decide (few 30 t ≤ 30)) = true:=by
      rw [List.all_eq_true]
      intro t ht
      obtain ⟨j,hj,rfl⟩:=List.getElem_of_mem ht
      simpa using HG.out j (by omega) _ (List.getElem?_eq_getElem hj)
     rw [this];rfl
    have hdd : decide (l.length ≤ 8) = decide ((l.length : Int) ≤ 8):=by rw [Bool.eq_iff_iff];simp;omega
    have HAL:=hid (hall.trans hdd)
    clear hall hdd
    go_wp2_with fail
    go_ret
    exact ⟨by rw [HAL.out];rfl,HFR.out⟩
open Un (kd nm ar size sizes acc accs fits valid)
def qData (p : Int) : Q:=.any (.any (.int p (.any (.any .nil))))
theorem ln_qData (p : Int) : (qData p).ln = 5:=rfl
def DatasV (w : World) (N : Nat → Prop) (ds : List Int) (v : Value) : Prop:=InN w N (.sl 61 5 ds.length (rowsQ qData ds) .nil) [v]
theorem DatasV.el {w : World} {N : Nat → Prop} {ds : List Int} {v : Value} (h : DatasV w N ds v) {i : Nat} (hi : i < ds.length) :
  ∃ b o cap,v = .slice (some ⟨b,o,none⟩) ds.length cap ∧ w.cell? ⟨b,o + i * 5 + 2,none⟩ = some (.int .i64 ds[i]) ∧ b < w.heap.size:=by
 rcases InN.slice h with ⟨p,c,_,h0⟩ | ⟨b,o,cap,xs,rfl,h1,h2,h3,h4,h5,h6,h7,h8⟩
 ·omega
 ·obtain ⟨es,k1,k2,k3⟩:=InN.get (f:=qData) (s:=5) ln_qData ds xs i ds[i] h8 (List.getElem?_eq_getElem hi)
  refine ⟨b,o,cap,rfl,?_,h5⟩
  have:=k3 2 (by omega)
  rw [Nat.add_assoc,h7 _ (by omega),this]
  unfold qData at k1
  rw [InN] at k1
  obtain ⟨v0,c0,rfl,_,k1⟩:=k1
  rw [InN] at k1
  obtain ⟨v1,c1,rfl,_,k1⟩:=k1
  rw [InN] at k1
  obtain ⟨c2,rfl,_⟩:=k1
  rfl
theorem DatasV.shape {w : World} {N : Nat → Prop} {l : List Int} {v : Value} (h : DatasV w N l v) : ∃ p c,v = .slice p l.length c:=by
 rcases InN.slice h with ⟨p,c,rfl,h0⟩ | ⟨b,o,cap,xs,rfl,_⟩
 ·exact ⟨p,c,by rw [h0]⟩
 ·exact ⟨_,_,rfl⟩
structure ScV (w : World) (N : Nat → Prop) (b : Nat) (ds : List Int) (p : Int) (v : Value) : Prop where
 blk : Blk w b 83 #[v,.int .i64 p]
 datas : DatasV w N ds v
theorem ScV.keep {w w' : World} {N : Nat → Prop} {b : Nat} {ds : List Int} {p : Int} {v : Value} (h : ScV w N b ds p v) (hf : Fr [] w w') : ScV w' N b ds p v:=⟨h.blk.keep hf (by simp),InN.keep0 h.datas hf⟩
theorem any_not {α : Type} (f : α → Bool) : ∀ l : List α,l.any (fun a => !f a) = !l.all f
 | [] => rfl
 | a :: r => by rw [List.any_cons,List.all_cons,any_not f r];cases f a <;> rfl
theorem enters_wrong : Enters 93:=fun _ _ => by kernel_rfl
set_option maxRecDepth 100000 in
set_option maxHeartbeats 1600000 in
theorem wrong_any (ds : List Int) (p n : Int) (k i : Int) (N N' : Nat → Prop) (b bt bs bl : Nat) (dv tv : Value) (a : Ty) (cs : List Value) (w : World) (hn : 0 < n) (hn8 : n ≤ 8)
  (hT : Blk w bt 24 #[.int .i64 k,.int .i64 i,tv]) (hS : Blk w bs 81 #[.pointer (some ⟨b,0,none⟩)]) (hL : Blk w bl 3 #[.int .i64 n]) (hsc : ScV w N' b ds p dv) (h : TyV w N a cs)
  (hA : ∀ (cs : List Value) (w : World),ScV w N' b ds p dv → TyV w N a cs → Calls Try.prog 57 #[.pointer (some ⟨b,0,none⟩),.agg cs.toArray,.int .i64 (n - 1)] w (LookP (acc ds p (n - 1) a) w)) :
  Calls Try.prog 93 #[.agg cs.toArray,.pointer (some ⟨bt,0,none⟩),.pointer (some ⟨bs,0,none⟩),.pointer (some ⟨bl,0,none⟩)] w (LookP (!(fits k a && acc ds p (n - 1) a)) w):=by
 have HA:=hid hA
 have HSC:=hid hsc
 have HT:=hid h
 obtain ⟨pa,ca,rfl,_⟩:=h.shape
 have t0 : w.cell? ⟨bt,0,none⟩ = some (.int .i64 k):=hT.cell 0
 have tl : bt < w.heap.size:=hT.lt
 have hbt : bt < w.heap.size:=hT.lt
 obtain ⟨w1,hw1⟩ : ∃ w1,w1 = w.alloc (.cells #[.int .i64 (kd a),.int .i64 (nm a),.slice pa (ar a).length ca] 24):=⟨_,rfl⟩
 have HF0 : Hid (Fr [] w w1):=hid (by rw [hw1];exact (Fr.refl _ _).alloc _)
 have HB0 : Hid (Blk w1 w.heap.size 24 #[.int .i64 (kd a),.int .i64 (nm a),.slice pa (ar a).length ca]):=hid (by rw [hw1];exact Blk.new _ _ _)
 have HS1:=hid (hS.keep HF0.out (by simp))
 have HL1:=hid (hL.keep HF0.out (by simp))
 obtain ⟨r,hr⟩ : ∃ r,r = (k == 7 && kd a == 6):=⟨_,rfl⟩
 have HR : Hid (fits k a = (Un.stored a || r)):=hid (by rw [hr];rfl)
 clear h hT hS hL hsc hA
 have HST : Hid (Calls Try.prog 94 #[.agg #[.int .i64 (kd a),.int .i64 (nm a),.slice pa (ar a).length ca]] w1 (LookP (Un.stored a) w1)):=hid (isstored_any a _ w1 N (HT.out.keep0 HF0.out))
 have key : Calls Try.prog 93 #[.agg #[.int .i64 (kd a),.int .i64 (nm a),.slice pa (ar a).length ca],.pointer (some ⟨bt,0,none⟩),.pointer (some ⟨bs,0,none⟩),.pointer (some ⟨bl,0,none⟩)] w (LookP (!((Un.stored a || r) && acc ds p (n - 1) a)) w):=by
  by_cases e7 : k = 7
  ·have e1 : (k == 7) = true:=by simp [e7]
   by_cases e6 : kd a = 6
   ·have e2 : (kd a == 6) = true:=by simp [e6]
    obtain rfl : r = true:=by rw [hr,e1,e2];rfl
    clear e7 e6 hr
    go_enter Try.func93,Try.ntmps93
    go_wp2_with fail
    rw [← hw1]
    clear hw1 t0
    refine HST.out.mono ?_
    rintro e w2 ⟨rfl,hf2⟩
    have HF2:=hid (HF0.out.trans hf2)
    have HB2:=hid (HB0.out.keep hf2 (by simp))
    have HS2:=hid (HS1.out.keep hf2 (by simp))
    have HL2:=hid (HL1.out.keep hf2 (by simp))
    clear hf2
    cases hst : Un.stored a with
    | true =>
     have HG:=hid hst
     clear hst
     have c0 : w2.cell? ⟨w.heap.size,0,none⟩ = some (.int .i64 (kd a)):=HB2.out.cell 0
     have c1 : w2.cell? ⟨w.heap.size,1,none⟩ = some (.int .i64 (nm a)):=HB2.out.cell 1
     have c2 : w2.cell? ⟨w.heap.size,2,none⟩ = some (.slice pa (ar a).length ca):=HB2.out.cell 2
     have s0 : w2.cell? ⟨bs,0,none⟩ = some (.pointer (some ⟨b,0,none⟩)):=HS2.out.cell 0
     have l0 : w2.cell? ⟨bl,0,none⟩ = some (.int .i64 n):=HL2.out.cell 0
     have x0 : w.heap.size < w2.heap.size:=HB2.out.lt
     have x1 : bs < w2.heap.size:=HS2.out.lt
     have x2 : bl < w2.heap.size:=HL2.out.lt
     go_wp2_with fail
     refine (HA.out _ _ (HSC.out.keep HF2.out) (HT.out.keep0 HF2.out)).mono ?_
     rintro e w3 ⟨rfl,hf3⟩
     have HF3:=hid (HF2.out.trans hf3)
     clear hf3 c0 c1 c2 s0 l0 x0 x1 x2
     go_wp2_with fail
     go_ret
     exact ⟨by rw [HG.out];simp,HF3.out⟩
    | false =>
     have HG:=hid hst
     clear hst
     have c0 : w2.cell? ⟨w.heap.size,0,none⟩ = some (.int .i64 (kd a)):=HB2.out.cell 0
     have c1 : w2.cell? ⟨w.heap.size,1,none⟩ = some (.int .i64 (nm a)):=HB2.out.cell 1
     have c2 : w2.cell? ⟨w.heap.size,2,none⟩ = some (.slice pa (ar a).length ca):=HB2.out.cell 2
     have s0 : w2.cell? ⟨bs,0,none⟩ = some (.pointer (some ⟨b,0,none⟩)):=HS2.out.cell 0
     have l0 : w2.cell? ⟨bl,0,none⟩ = some (.int .i64 n):=HL2.out.cell 0
     have x0 : w.heap.size < w2.heap.size:=HB2.out.lt
     have x1 : bs < w2.heap.size:=HS2.out.lt
     have x2 : bl < w2.heap.size:=HL2.out.lt
     go_wp2_with fail
     refine (HA.out _ _ (HSC.out.keep HF2.out) (HT.out.keep0 HF2.out)).mono ?_
     rintro e w3 ⟨rfl,hf3⟩
     have HF3:=hid (HF2.out.trans hf3)
     clear hf3 c0 c1 c2 s0 l0 x0 x1 x2
     go_wp2_with fail
     go_ret
     exact ⟨by rw [HG.out];simp,HF3.out⟩
   ·have e2 : (kd a == 6) = false:=by simp [e6]
    obtain rfl : r = false:=by rw [hr,e1,e2];rfl
    clear e7 e6 hr
    go_enter Try.func93,Try.ntmps93
    go_wp2_with fail
    rw [← hw1]
    clear hw1 t0
    refine HST.out.mono ?_
    rintro e w2 ⟨rfl,hf2⟩
    have HF2:=hid (HF0.out.trans hf2)
    have HB2:=hid (HB0.out.keep hf2 (by simp))
    have HS2:=hid (HS1.out.keep hf2 (by simp))
    have HL2:=hid (HL1.out.keep hf2 (by simp))
    clear hf2
    cases hst : Un.stored a with
    | true =>
     have HG:=hid hst
     clear hst
     have c0 : w2.cell? ⟨w.heap.size,0,none⟩ = some (.int .i64 (kd a)):=HB2.out.cell 0
     have c1 : w2.cell? ⟨w.heap.size,1,none⟩ = some (.int .i64 (nm a)):=HB2.out.cell 1
     have c2 : w2.cell? ⟨w.heap.size,2,none⟩ = some (.slice pa (ar a).length ca):=HB2.out.cell 2
     have s0 : w2.cell? ⟨bs,0,none⟩ = some (.pointer (some ⟨b,0,none⟩)):=HS2.out.cell 0
     have l0 : w2.cell? ⟨bl,0,none⟩ = some (.int .i64 n):=HL2.out.cell 0
     have x0 : w.heap.size < w2.heap.size:=HB2.out.lt
     have x1 : bs < w2.heap.size:=HS2.out.lt
     have x2 : bl < w2.heap.size:=HL2.out.lt
     go_wp2_with fail
     refine (HA.out _ _ (HSC.out.keep HF2.out) (HT.out.keep0 HF2.out)).mono ?_
     rintro e w3 ⟨rfl,hf3⟩
     have HF3:=hid (HF2.out.trans hf3)
     clear hf3 c0 c1 c2 s0 l0 x0 x1 x2
     go_wp2_with fail
     go_ret
     exact ⟨by rw [HG.out];simp,HF3.out⟩
    | false =>
     have HG:=hid hst
     clear hst
     go_wp2_with fail
     go_ret
     exact ⟨by rw [HG.out];simp,HF2.out⟩
  ·have e1 : (k == 7) = false:=by simp [e7]
   obtain rfl : r = false:=by rw [hr,e1];rfl
   clear e7 hr
   go_enter Try.func93,Try.ntmps93
   go_wp2_with fail
   rw [← hw1]
   clear hw1 t0
   refine HST.out.mono ?_
   rintro e w2 ⟨rfl,hf2⟩
   have HF2:=hid (HF0.out.trans hf2)
   have HB2:=hid (HB0.out.keep hf2 (by simp))
   have HS2:=hid (HS1.out.keep hf2 (by simp))
   have HL2:=hid (HL1.out.keep hf2 (by simp))
   clear hf2
   cases hst : Un.stored a with
   | true =>
    have HG:=hid hst
    clear hst
    have c0 : w2.cell? ⟨w.heap.size,0,none⟩ = some (.int .i64 (kd a)):=HB2.out.cell 0
    have c1 : w2.cell? ⟨w.heap.size,1,none⟩ = some (.int .i64 (nm a)):=HB2.out.cell 1
    have c2 : w2.cell? ⟨w.heap.size,2,none⟩ = some (.slice pa (ar a).length ca):=HB2.out.cell 2
    have s0 : w2.cell? ⟨bs,0,none⟩ = some (.pointer (some ⟨b,0,none⟩)):=HS2.out.cell 0
    have l0 : w2.cell? ⟨bl,0,none⟩ = some (.int .i64 n):=HL2.out.cell 0
    have x0 : w.heap.size < w2.heap.size:=HB2.out.lt
    have x1 : bs < w2.heap.size:=HS2.out.lt
    have x2 : bl < w2.heap.size:=HL2.out.lt
    go_wp2_with fail
    refine (HA.out _ _ (HSC.out.keep HF2.out) (HT.out.keep0 HF2.out)).mono ?_
    rintro e w3 ⟨rfl,hf3⟩
    have HF3:=hid (HF2.out.trans hf3)
    clear hf3 c0 c1 c2 s0 l0 x0 x1 x2
    go_wp2_with fail
    go_ret
    exact ⟨by rw [HG.out];simp,HF3.out⟩
   | false =>
    have HG:=hid hst
    clear hst
    go_wp2_with fail
    go_ret
    exact ⟨by rw [HG.out];simp,HF2.out⟩
 rw [← HR.out] at key
 exact key
theorem four_args (x a b c : Value) : (#[x] ++ #[a,b,c] : Array Value) = #[x,a,b,c]:=by simp
def AccAt (ds : List Int) (p n : Int) (N N' : Nat → Prop) (b : Nat) (dv : Value) (a : Ty) : Prop:=
 ∀ (cs : List Value) (w : World),ScV w N' b ds p dv → TyV w N a cs → Calls Try.prog 57 #[.pointer (some ⟨b,0,none⟩),.agg cs.toArray,.int .i64 n] w (LookP (acc ds p n a) w)
set_option maxRecDepth 100000 in
set_option maxHeartbeats 1600000 in
theorem acceptsargs_any (ds : List Int) (p n num : Int) (N N' : Nat → Prop) (b : Nat) (dv : Value) (t : Ty) (cs : List Value) (w : World) (hn : 0 < n) (hn8 : n ≤ 8) (hsc : ScV w N' b ds p dv) (h : TyV w N t cs) (hA : ∀ a ∈ ar t,AccAt ds p (n - 1) N N' b dv a) :
  Calls Try.prog 82 #[.pointer (some ⟨b,0,none⟩),.agg cs.toArray,.int .i64 num,.int .i64 n] w (LookP (decide (((ar t).length : Int) = num) && accs ds p (kd t) n (ar t)) w):=by
 obtain ⟨pt,ct,rfl,hat⟩:=h.shape
 have hlm:=hat.len
 unfold maxLen at hlm
 obtain ⟨w1,hw1⟩ : ∃ w1,w1 = ((w.alloc (.cells #[.pointer (some ⟨b,0,none⟩)] 81)).alloc (.cells #[.int .i64 (kd t),.int .i64 (nm t),.slice pt (ar t).length ct] 24)).alloc (.cells #[.int .i64 n] 3):=⟨_,rfl⟩
 have HF0 : Hid (Fr [] w w1):=hid (by rw [hw1];exact (((Fr.refl _ _).alloc _).alloc _).alloc _)
 have HBS : Hid (Blk w1 w.heap.size 81 #[.pointer (some ⟨b,0,none⟩)]):=hid (by rw [hw1];exact ((Blk.new _ _ _).alloc _).alloc _)
 have HBT : Hid (Blk w1 (w.heap.size + 1) 24 #[.int .i64 (kd t),.int .i64 (nm t),.slice pt (ar t).length ct]):=hid (by rw [hw1];exact (Blk.new_at (by simp)).alloc _)
 have HBL : Hid (Blk w1 (w.heap.size + 1 + 1) 3 #[.int .i64 n]):=hid (by rw [hw1];exact Blk.new_at (by simp))
 have HC : Hid (Calls Try.prog 77 #[.slice pt (ar t).length ct,.func (.func 93) #[] #[.pointer (some ⟨w.heap.size + 1,0,none⟩),.pointer (some ⟨w.heap.size,0,none⟩),.pointer (some ⟨w.heap.size + 1 + 1,0,none⟩)]] w1 (LookP (!accs ds p (kd t) n (ar t)) w1)):=by
  have h1:=containsfunc_any 93 #[.pointer (some ⟨w.heap.size + 1,0,none⟩),.pointer (some ⟨w.heap.size,0,none⟩),.pointer (some ⟨w.heap.size + 1 + 1,0,none⟩)] N (fun a => !(fits (kd t) a && acc ds p (n - 1) a)) enters_wrong (ar t) w1
   (fun a ha cs wr hf htv => by
    rw [four_args]
    exact wrong_any ds p n (kd t) (nm t) N N' b (w.heap.size + 1) w.heap.size (w.heap.size + 1 + 1) dv _ a cs wr hn hn8 (HBT.out.keep hf (by simp)) (HBS.out.keep hf (by simp)) (HBL.out.keep hf (by simp)) (hsc.keep (HF0.out.trans hf)) htv (hA a ha))
   _ (hat.keep0 HF0.out)
  rw [any_not,← Un.accs_all] at h1
  exact hid h1
 clear hat h hsc hA
 by_cases hnum : ((ar t).length : Int) = num
 ·have e1 : (((ar t).length : Int) == num) = true:=by simp [hnum]
  have e2 : decide (((ar t).length : Int) = num) = true:=by simp [hnum]
  have hr : (decide (((ar t).length : Int) = num) && accs ds p (kd t) n (ar t)) = accs ds p (kd t) n (ar t):=by rw [e2];rfl
  rw [hr]
  clear hnum e2 hr
  go_enter Try.func82,Try.ntmps82
  go_wp2_with fail
  rw [← hw1]
  clear hw1
  refine HC.out.mono ?_
  rintro e w2 ⟨rfl,hf2⟩
  have HF2:=hid (HF0.out.trans hf2)
  clear hf2
  go_wp2_with fail
  go_ret
  exact ⟨by simp,HF2.out⟩
 ·have e1 : (((ar t).length : Int) == num) = false:=by simp [hnum]
  have e2 : decide (((ar t).length : Int) = num) = false:=by simp [hnum]
  have hr : (decide (((ar t).length : Int) = num) && accs ds p (kd t) n (ar t)) = false:=by rw [e2];rfl
  rw [hr]
  clear hnum e2 hr
  go_enter Try.func82,Try.ntmps82
  go_wp2_with fail
  go_ret
  exact ⟨rfl,by rw [← hw1];exact HF0.out⟩
end Go.Proofs.Ytcdlnhfgehhkcaa
