/- part of the proof -/
import Derived.Test.YtcdlnhfgehhkcaaQ09
import Derived.Laws.EntriesVeiled
set_option linter.unusedVariables false
set_option linter.unusedSimpArgs false
set_option linter.unusedSectionVars false
namespace Go.Proofs.Ytcdlnhfgehhkcaa
open Go.RowKit Go.Lib
open Un (kd nm ar size sizes over)
namespace Un
def upd (f : Int → Option Int) (i v : Int) : Int → Option Int:=fun j => if j = i then some v else f j
mutual
def above : Ty → (Int → Option Int) → Int → (Int → Option Int)
 | .mk k i al,f,lv => if k = 9 then upd f i (max ((f i).getD 0) lv) else aboves al f (lv + 1)
def aboves : List Ty → (Int → Option Int) → Int → (Int → Option Int)
 | [],f,_ => f
 | a :: r,f,lv => aboves r (above a f lv) lv
end
theorem above_eq (t : Ty) (f : Int → Option Int) (lv : Int) : above t f lv = if kd t = 9 then upd f (nm t) (max ((f (nm t)).getD 0) lv) else aboves (ar t) f (lv + 1):=by cases t;rw [above];rfl
theorem aboves_app (m : List Ty) : ∀ (l : List Ty) (f : Int → Option Int) (lv : Int),aboves (l ++ m) f lv = aboves m (aboves l f lv) lv
 | [],f,lv => by rw [aboves];rfl
 | a :: r,f,lv => by rw [List.cons_append,aboves,aboves,aboves_app m r]
theorem aboves_take {l : List Ty} {i : Nat} (hi : i < l.length) (f : Int → Option Int) (lv : Int) : aboves (l.take (i + 1)) f lv = above l[i] (aboves (l.take i) f lv) lv:=by
 rw [List.take_succ_eq_append_getElem hi,aboves_app,aboves,aboves]
def Bd (f : Int → Option Int) : Prop:=∀ j v,f j = some v → 0 ≤ v ∧ v ≤ 200000
theorem Bd.get {f : Int → Option Int} (h : Bd f) (j : Int) : 0 ≤ (f j).getD 0 ∧ (f j).getD 0 ≤ 200000:=by
 cases e : f j with
 | none => simp
 | some v => simpa using h j v e
theorem Bd.upd {f : Int → Option Int} (h : Bd f) (i : Int) {v : Int} (h0 : 0 ≤ v) (h1 : v ≤ 200000) : Bd (upd f i v):=by
 intro j u hu
 unfold Un.upd at hu
 split at hu
 ·simp only [Option.some.injEq] at hu;subst hu;exact ⟨h0,h1⟩
 ·exact h j u hu
theorem sizes_take : ∀ (l : List Ty) (i : Nat),sizes (l.take i) ≤ sizes l
 | [],i => by simp
 | a :: r,0 => by rw [List.take_zero,sizes];omega
 | a :: r,i + 1 => by
  rw [List.take_succ_cons,sizes,sizes]
  have:=sizes_take r i
  omega
theorem sizes_snoc {l : List Ty} {i : Nat} (hi : i < l.length) : sizes (l.take (i + 1)) = sizes (l.take i) + size l[i]:=by
 rw [List.take_succ_eq_append_getElem hi]
 have key : ∀ (l : List Ty) (a : Ty),sizes (l ++ [a]) = sizes l + size a:=by
  intro l a
  induction l with
  | nil => simp [sizes]
  | cons b r ih => rw [List.cons_append,sizes,ih,sizes];omega
 exact key _ _
end Un
open Un (above aboves Bd)
def CollP (m k : Nat) (f : Int → Option Int) (w : World) (e : Ending) (w' : World) : Prop:=e = .returned (.tuple #[]) ∧ MapII w' m k f ∧ Bd f ∧ Fr [m] w w'
def collF (pa pf : Nat) : Value:=.func (.func 95) #[] #[.pointer (some ⟨pa,0,none⟩),.pointer (some ⟨pf,0,none⟩)]
namespace Un
mutual
def vin (n : Int) : Ty → Bool
 | .mk k i al => if k = 9 then (decide (0 ≤ i) && decide (i < n)) && al.isEmpty else vins n al
def vins (n : Int) : List Ty → Bool
 | [] => true
 | a :: r => vin n a && vins n r
end
theorem vins_all (n : Int) : ∀ l,vins n l = l.all (vin n)
 | [] => by rw [vins];rfl
 | a :: r => by rw [vins,vins_all n r];rfl
theorem vin_eq (n : Int) (t : Ty) : vin n t = if kd t = 9 then (decide (0 ≤ nm t) && decide (nm t < n)) && (ar t).isEmpty else (ar t).all (vin n):=by cases t;rw [vin,vins_all];rfl
theorem vin_of_over (n : Int) : ∀ t,over n t = true → vin n t = true:=by
 refine Un.Ty.ind fun k x al ih => ?_
 intro h
 rw [over_eq] at h
 rw [vin_eq]
 by_cases e : kd (Ty.mk k x al) = 9
 ·rw [if_pos e] at h ⊢;exact h
 ·rw [if_neg e] at h ⊢
  simp only [Bool.and_eq_true,List.all_eq_true] at h
  rw [List.all_eq_true]
  exact fun a ha => ih a ha (h.2 a ha)
theorem vin_of_unsolved (n : Int) (t : Ty) (h : unsolved t = true) : vin n t = true:=by
 unfold unsolved at h
 simp only [Bool.and_eq_true,beq_iff_eq,List.isEmpty_iff] at h
 rw [vin_eq,if_neg (by omega),h.2]
 rfl
end Un
open Un (vin)
theorem enters_coll : Enters 95:=fun _ _ => by kernel_rfl
set_option maxRecDepth 100000 in
set_option maxHeartbeats 3200000 in
theorem collect_any (N : Nat → Prop) (pa pf m L : Nat) (hL : L ≤ 1000000) (hNm : ¬ N m) (ha : pa ≠ m) (hp : pf ≠ m) : ∀ (n : Nat) (t : Ty),size t ≤ n → vin L t = true → ∀ (cs : List Value) (w : World) (lv : Int) (k : Nat) (f : Int → Option Int),TyV w N t cs →
  Blk w pa 99 #[.map (some m)] → Blk w pf 118 #[collF pa pf] → MapII w m k f → Bd f → 0 ≤ lv → lv + n ≤ 100000 → k + size t ≤ 1000000 →
  Calls Try.prog 95 #[.agg cs.toArray,.int .i64 lv,.pointer (some ⟨pa,0,none⟩),.pointer (some ⟨pf,0,none⟩)] w (CollP m (k + size t) (above t f lv) w):=by
 have hE : ∀ (args : Array Value) (w : World),(callFunc 95 args).run Try.prog w = .ok (.enter 95 args) w:=enters_coll
 have HNM:=hid hNm
 intro n
 induction n with
 | zero => intro t h;exact absurd (Un.size_pos t) (by omega)
 | succ n ih =>
  intro t hn hov cs w lv k f h hBa hBp hM hf hlv0 hlv hk
  obtain ⟨p,c,rfl,ha'⟩:=h.shape
  have HB:=hid hBa
  have HBP:=hid hBp
  have HM:=hid hM
  have HFB:=hid hf
  have b0 : w.cell? ⟨pa,0,none⟩ = some (.map (some m)):=hBa.cell 0
  have b1 : w.cell? ⟨pf,0,none⟩ = some (collF pa pf):=hBp.cell 0
  have bl : pa < w.heap.size:=hBa.lt
  have pl : pf < w.heap.size:=hBp.lt
  have hE1:=Un.above_eq t f lv
  have hov2:=hov
  rw [Un.vin_eq] at hov2
  by_cases h9 : kd t = 9
  ·have e1 : (kd t == 9) = true:=by simp [h9]
   rw [if_pos h9] at hE1 hov2
   simp only [Bool.and_eq_true,decide_eq_true_eq,List.isEmpty_iff] at hov2
   obtain ⟨⟨o0,o1⟩,o2⟩:=hov2
   have hb:=hf.get (nm t)
   have hwk : (Lit.int .i64 (nm t)).wf = true:=WalkArith.wf_i64 (by omega)
   have hwv : (Lit.int .i64 (max ((f (nm t)).getD 0) lv)).wf = true:=WalkArith.wf_i64 (by omega)
   have HE1:=hid hE1
   have HSZ : Hid (1 ≤ size t):=hid (Un.size_pos t)
   have HBD : Hid (Bd (Un.upd f (nm t) (max ((f (nm t)).getD 0) lv))):=hid (hf.upd _ (by omega) (by omega))
   rw [o2] at ha' ⊢
   simp only [List.length_nil]
   have hF0 : Hid (Fr [m] w (w.alloc (.cells #[.int .i64 (kd t),.int .i64 (nm t),.slice p 0 c] 24))):=hid ((Fr.refl _ _).alloc _)
   have HM1 : Hid (MapII (w.alloc (.cells #[.int .i64 (kd t),.int .i64 (nm t),.slice p 0 c] 24)) m k f):=hid (hM.keep ((Fr.refl [] _).alloc _) (by simp))
   have hnew : w.heap.size ∉ [m]:=by
    simp only [List.mem_singleton]
    have:=hM.lt
    omega
   clear hE1 hov hn ih h hBa hBp hM hf ha' h9
   go_enter Try.func95,Try.ntmps95
   go_wp2_with (first | (at_lookup;refine wpList_look1_ii _ rfl _ _ 99 rfl Try.underlying99 _ _ f rfl HM1.out (nm t) rfl hwk ?_) | (at_mapUpdate;go_loud (refine wpList_put_ii _ rfl _ _ _ 99 rfl Try.underlying99 _ k f rfl HM1.out (by omega) (nm t) (max ((f (nm t)).getD 0) lv) rfl (by first | rfl | simp) hwk hwv ?_;intro w3 hM3 hf3;have HM3:=hid hM3;have HF3:=hid (hF0.out.trans hf3);have s0 : w3.cell? ⟨w.heap.size,2,none⟩ = some (.slice p 0 c):=((Blk.new w _ _).keep hf3 hnew).cell 2;have sl : w.heap.size < w3.heap.size:=Nat.lt_of_lt_of_le (by simp) hf3.size;clear hM3 hf3)))
   clear s0 sl
   go_loopw [23] (fun x wr => x = .int .i64 0 ∧ Hid (MapII wr m (k + 1) (Un.upd f (nm t) (max ((f (nm t)).getD 0) lv))) ∧ Hid (Fr [m] w wr)) (fun _ _ => 0)
   case atStart => exact ⟨rfl,HM3,HF3⟩
   case round =>
    obtain ⟨rfl,HM4,HF4⟩:=hrel
    go_wp2_with fail
    go_end0
    rw [HE1.out]
    exact ⟨rfl,HM4.out.mono (by have:=HSZ.out;omega),HBD.out,HF4.out⟩
  ·have e1 : (kd t == 9) = false:=by simp [h9]
   rw [if_neg h9] at hE1 hov2
   simp only [List.all_eq_true] at hov2
   have HE1:=hid hE1
   have HOV : Hid (∀ a ∈ ar t,vin L a = true):=hid hov2
   have HA:=hid ha'
   have HSZ : Hid (size t = sizes (ar t) + 1):=hid (by cases t;rw [Un.size];rfl)
   have IH : Hid (∀ a ∈ ar t,∀ (cs : List Value) (w : World) (lv : Int) (k : Nat) (f : Int → Option Int),TyV w N a cs → Blk w pa 99 #[.map (some m)] → Blk w pf 118 #[collF pa pf] → MapII w m k f → Bd f → 0 ≤ lv → lv + n ≤ 100000 → k + size a ≤ 1000000 →
     Calls Try.prog 95 #[.agg cs.toArray,.int .i64 lv,.pointer (some ⟨pa,0,none⟩),.pointer (some ⟨pf,0,none⟩)] w (CollP m (k + size a) (above a f lv) w)):=hid fun a ha => ih a (by have:=size_ar ha;omega) (hov2 a ha)
   have HN : Hid (size t ≤ n + 1):=hid hn
   obtain ⟨l,hl⟩ : ∃ l,l = ar t:=⟨_,rfl⟩
   rw [← hl] at HE1 HOV HA HSZ IH ⊢
   have hlm : l.length ≤ 100000:=by have h1:=HSZ.out;have h2:=HN.out;have h3:=Un.sizes_len l;omega
   have hF0 : Hid (Fr [m] w (w.alloc (.cells #[.int .i64 (kd t),.int .i64 (nm t),.slice p l.length c] 24))):=hid ((Fr.refl _ _).alloc _)
   have HM1 : Hid (MapII (w.alloc (.cells #[.int .i64 (kd t),.int .i64 (nm t),.slice p l.length c] 24)) m k f):=hid (hM.keep ((Fr.refl [] _).alloc _) (by simp))
   clear hE1 hov hov2 hn ih h hBa hBp hM hf ha' h9 hl b0 b1 bl pl
   go_enter Try.func95,Try.ntmps95
   go_wp2_with fail
   go_loopw [23] (fun x wr => ∃ j : Nat,x = .int .i64 j ∧ j ≤ l.length ∧ Hid (MapII wr m (k + sizes (l.take j)) (aboves (l.take j) f (lv + 1))) ∧ Hid (Bd (aboves (l.take j) f (lv + 1))) ∧ Hid (Fr [m] w wr)) (fun x _ => l.length - (RowKit.intOf x).toNat)
   case atStart => exact ⟨0,rfl,Nat.zero_le _,by rw [List.take_zero,Un.sizes,aboves];exact HM1,by rw [List.take_zero,aboves];exact HFB,hF0⟩
   case round =>
    obtain ⟨j,rfl,hj,HMR,HBR,HFR⟩:=hrel
    by_cases hlt : j < l.length
    ·have hd2 : decide ((j : Int) < (l.length : Int)) = true:=by simp;omega
     have hd3 : decide (j < l.length) = true:=by simpa using hlt
     obtain ⟨b,o,rfl,hat⟩ : ∃ b o,p = some ⟨b,o,none⟩ ∧ TysAt w N l b o:=by
      rcases HA.out.cases with ⟨rfl,_⟩ | ⟨_,b,o,cap,heq,_,_,hat⟩
      ·simp at hlt
      ·simp only [Value.slice.injEq] at heq
       exact ⟨b,o,heq.1,hat⟩
     obtain ⟨p1,c1,k1,hb,g0,g1,g2⟩:=hat.el HFR.out (by simpa using HNM.out) (List.getElem?_eq_getElem hlt)
     have K1:=hid k1
     have HSN:=hid (Un.sizes_snoc hlt)
     have HST:=hid (Un.sizes_take l (j + 1))
     have HAT:=hid (Un.aboves_take hlt f (lv + 1))
     obtain ⟨x,hx⟩ : ∃ x,x = l[j]:=⟨_,rfl⟩
     have HMX : Hid (x ∈ l):=hid (by rw [hx];exact List.getElem_mem _)
     rw [← hx] at g0 g1 g2 K1 HSN HAT
     have HBA2:=hid (HB.out.keep HFR.out (by simpa using ha))
     have HBP2:=hid (HBP.out.keep HFR.out (by simpa using hp))
     have b1 : wr.cell? ⟨pf,0,none⟩ = some (.func (.func 95) #[] #[.pointer (some ⟨pa,0,none⟩),.pointer (some ⟨pf,0,none⟩)]):=HBP2.out.cell 0
     have pl : pf < wr.heap.size:=HBP2.out.lt
     clear k1 hat hx
     go_wp2_with fail
     have hf0 : Fr [] wr (wr.alloc (.cells #[.int .i64 (kd x),.int .i64 (nm x),.slice p1 (ar x).length c1] 24)):=(Fr.refl _ _).alloc _
     refine ((IH.out x HMX.out _ _ (lv + 1) _ _ (K1.out.keep0 hf0) (HBA2.out.keep hf0 (by simp)) (HBP2.out.keep hf0 (by simp)) (HMR.out.keep hf0 (by simp)) HBR.out (by omega) (by omega) (by have h1:=HSN.out;have h2:=HST.out;have h3:=HSZ.out;omega)).mono ?_)
     rintro e w2 ⟨rfl,hM2,hB2,hf2⟩
     have HM2:=hid hM2
     have HB2:=hid hB2
     have HF2:=hid (HFR.out.trans ((hf0.nil [m]).trans hf2))
     clear hM2 hB2 hf2 hf0 b1 pl g0 g1 g2
     go_wp2_with fail
     go_roundw
     case rel => exact ⟨j + 1,by go_num,by omega,by rw [HSN.out,HAT.out,← Nat.add_assoc];exact HM2,by rw [HAT.out];exact HB2,HF2⟩
     case measure => simp [RowKit.intOf];omega
    ·have hd2 : decide ((j : Int) < (l.length : Int)) = false:=by simp;omega
     have hd3 : decide (j < l.length) = false:=by simpa using hlt
     obtain rfl : j = l.length:=by omega
     go_wp2_with fail
     go_end0
     rw [List.take_length] at HMR HBR
     rw [HE1.out]
     exact ⟨rfl,HMR.out.mono (by have:=HSZ.out;omega),HBR.out,HFR.out⟩
open Go.RowKit Go.Lib
open Un (kd nm ar size sizes over above aboves Bd)
def VarsP (k : Nat) (f : Int → Option Int) (w : World) (e : Ending) (w' : World) : Prop:=∃ m,e = .returned (.map (some m)) ∧ w.heap.size ≤ m ∧ MapII w' m k f ∧ Bd f ∧ Fr [] w w'
theorem run_makeColl (w : World) (a b : Value) : (Instr.makeFunc (.func 95) #[] #[a,b]).run Try.prog w = .ok (.func (.func 95) #[] #[a,b]) w:=rfl
set_option maxRecDepth 100000 in
set_option maxHeartbeats 1600000 in
theorem variablesof_any (N : Nat → Prop) (t : Ty) (L : Nat) (hL : L ≤ 1000000) (hs : size t ≤ 90000) (hov : Un.vin L t = true) (cs : List Value) (w : World) (h : TyV w N t cs) :
  Calls Try.prog 83 #[.agg cs.toArray] w (VarsP (size t) (above t (fun _ => none) 0) w):=by
 have HT:=hid (TyV.weak (N':=fun k => k < w.heap.size) h (fun k hk _ => hk))
 obtain ⟨p,c,rfl,_⟩:=h.shape
 have hE : ∀ (args : Array Value) (w : World),(callFunc 95 args).run Try.prog w = .ok (.enter 95 args) w:=enters_coll
 have hmm:=@run_makeMap Try.prog
 have hmf:=run_makeColl
 obtain ⟨w4,hw4⟩ : ∃ w4,w4 = (((w.alloc (.cells #[.int .i64 (kd t),.int .i64 (nm t),.slice p (ar t).length c] 24)).alloc (.map #[] 0)).alloc (.cells #[.map (some (w.heap.size + 1))] 99)).alloc (.cells #[collF (w.heap.size + 1 + 1) (w.heap.size + 1 + 1 + 1)] 118):=⟨_,rfl⟩
 have HF4 : Hid (Fr [] w w4):=hid (by rw [hw4];exact ((((Fr.refl _ _).alloc _).alloc _).alloc _).alloc _)
 have HA4 : Hid (Blk w4 (w.heap.size + 1 + 1) 99 #[.map (some (w.heap.size + 1))]):=hid (by rw [hw4];exact (Blk.new_at (by simp)).alloc _)
 have HP4 : Hid (Blk w4 (w.heap.size + 1 + 1 + 1) 118 #[collF (w.heap.size + 1 + 1) (w.heap.size + 1 + 1 + 1)]):=hid (by rw [hw4];exact Blk.new_at (by simp))
 have HM4 : Hid (MapII w4 (w.heap.size + 1) 0 (fun _ => none)):=hid (by
  have h1:=MapII.made (w.alloc (.cells #[.int .i64 (kd t),.int .i64 (nm t),.slice p (ar t).length c] 24))
  rw [show (w.alloc (.cells #[.int .i64 (kd t),.int .i64 (nm t),.slice p (ar t).length c] 24)).heap.size = w.heap.size + 1 from by simp] at h1
  rw [hw4]
  exact h1.keep (X:=[]) (((Fr.refl _ _).alloc _).alloc _) (by simp))
 unfold collF at hw4
 clear h
 go_enter Try.func83,Try.ntmps83
 go_wp2_with fail
 rw [← hw4]
 clear hw4
 have hbd : Bd (fun _ => none):=fun j v h => by cases h
 refine (collect_any (fun k => k < w.heap.size) (w.heap.size + 1 + 1) (w.heap.size + 1 + 1 + 1) (w.heap.size + 1) L hL (by omega) (by omega) (by omega) (size t) t (Nat.le_refl _) hov _ w4 0 0 (fun _ => none) (HT.out.keep0 HF4.out) HA4.out HP4.out HM4.out hbd (by omega) (by omega) (by omega)).mono ?_
 rintro e w5 ⟨rfl,hM5,hB5,hf5⟩
 have HM5:=hid hM5
 have HB5:=hid hB5
 have HF5:=hid hf5
 clear hM5 hB5 hf5
 have HA5:=hid (HA4.out.keep HF5.out (by simp))
 have s1 : w5.cell? ⟨w.heap.size + 1 + 1,0,none⟩ = some (.map (some (w.heap.size + 1))):=HA5.out.cell 0
 have sl : w.heap.size + 1 + 1 < w5.heap.size:=HA5.out.lt
 go_wp2_with fail
 go_ret
 refine ⟨_,rfl,by omega,?_,HB5.out,(HF4.out.nil [w.heap.size + 1]).trans HF5.out |>.drop (by omega)⟩
 have:=HM5.out
 rwa [Nat.zero_add] at this
open Un (kd nm ar size sizes unsolved)
def TypP (N : Nat → Prop) (t : Ty) (w : World) (e : Ending) (w' : World) : Prop:=Fr [] w w' ∧ ∃ ds,e = .returned (.agg ds.toArray) ∧ TyV w' N t ds
set_option maxRecDepth 100000 in
set_option maxHeartbeats 3200000 in
theorem endof_any (E : List Ty) (a x : Ty) (v : Value) (cs : List Value) (w : World) (N N' : Nat → Prop) (n : Nat) (hv : TysV w N E v) (h : TyV w N' a cs) (h9 : kd a = 9) (hn : nm a = n) (hx : E[n]? = some x) (hu : unsolved x = false) (hk : kd x ≠ 9) :
  Calls Try.prog 80 #[v,.agg cs.toArray] w (TypP N x w):=by
 obtain ⟨p,c,rfl,_⟩:=h.shape
 have hnl : n < E.length:=(List.getElem?_eq_some_iff.1 hx).1
 rcases hv.cases with ⟨rfl,_⟩ | ⟨_,b,o,cap,rfl,hc,hm,hat⟩
 ·simp at hnl
 have hlm:=hv.len
 unfold maxLen at hlm hm
 obtain ⟨p1,c1,k1,hb,g0,g1,g2⟩:=hat.el (Fr.refl [] w) (by simp) hx
 have K1:=hid k1
 have HU:=hid hu
 have e4 : decide (n < E.length) = true:=by simpa using hnl
 have e5 : decide ((n : Int) < (E.length : Int)) = true:=by simp;omega
 have ek : (kd x == 9) = false:=by simp [hk]
 have HV:=hid hv
 have HAT : Hid (∀ wr,Fr [] w wr → b < wr.heap.size ∧ wr.cell? ⟨b,o + n * 3,none⟩ = some (.int .i64 (kd x)) ∧ wr.cell? ⟨b,o + n * 3 + 1,none⟩ = some (.int .i64 (nm x)) ∧ wr.cell? ⟨b,o + n * 3 + 2,none⟩ = some (.slice p1 (ar x).length c1)):=hid (fun wr hf => by
  have hk : ∀ j,wr.cell? ⟨b,j,none⟩ = w.cell? ⟨b,j,none⟩:=fun j => hf.cell hb (by simp) j
  exact ⟨Nat.lt_of_lt_of_le hb hf.size,by rw [hk];exact g0,by rw [hk];exact g1,by rw [hk];exact g2⟩)
 rw [h9,hn]
 obtain ⟨w1,hw1⟩ : ∃ w1,w1 = (w.alloc (.cells #[.int .i64 9,.int .i64 n,.slice p (ar a).length c] 24)).alloc (.cells #[.int .i64 0,.int .i64 0,.slice none 0 0] 24):=⟨_,rfl⟩
 have HB0 : Hid (Blk w1 w.heap.size 24 #[.int .i64 9,.int .i64 n,.slice p (ar a).length c]):=hid (by rw [hw1];exact (Blk.new _ _ _).alloc _)
 have HB1 : Hid (Blk w1 (w.heap.size + 1) 24 #[.int .i64 0,.int .i64 0,.slice none 0 0]):=hid (by rw [hw1];exact Blk.new_at (by simp))
 have HF0 : Hid (Fr [] w w1):=hid (by rw [hw1];exact ((Fr.refl _ _).alloc _).alloc _)
 clear hv h hat k1 h9 hn hx hu hk g0 g1 g2 hb
 go_enter Try.func80,Try.ntmps80
 go_wp2_with fail
 rw [← hw1]
 clear hw1
 go_loopg [5] 2 (fun gg _ wr => Hid (Fr [] w wr) ∧ Hid (Blk wr (w.heap.size + 1) 24 #[.int .i64 0,.int .i64 0,.slice none 0 0]) ∧ ((gg = 2 ∧ Hid (Blk wr w.heap.size 24 #[.int .i64 9,.int .i64 n,.slice p (ar a).length c])) ∨ (gg = 1 ∧ Hid (Blk wr w.heap.size 24 #[.int .i64 (kd x),.int .i64 (nm x),.slice p1 (ar x).length c1]))))
 case atStart => exact ⟨HF0,HB1,.inl ⟨rfl,HB0⟩⟩
 case round =>
  obtain ⟨HFR,HBR,hcase⟩:=hrel
  have hz0 : w.heap.size < wr.heap.size:=by have:=HBR.out.lt;omega
  obtain ⟨hb,g0,g1,g2⟩:=HAT.out wr HFR.out
  rcases hcase with ⟨hg,HBX⟩ | ⟨hg,HBX⟩
  ·have s0 : wr.cell? ⟨w.heap.size,0,none⟩ = some (.int .i64 9):=HBX.out.cell 0
   have s1 : wr.cell? ⟨w.heap.size,1,none⟩ = some (.int .i64 n):=HBX.out.cell 1
   have s2 : wr.cell? ⟨w.heap.size,2,none⟩ = some (.slice p (ar a).length c):=HBX.out.cell 2
   go_wp2_with fail
   refine (isunsolved_any x _ wr N (K1.out.keep0 HFR.out)).mono ?_
   rw [HU.out]
   rintro e w2 ⟨rfl,hf2⟩
   have HF2:=hid (HFR.out.trans hf2)
   have HBR2:=hid (HBR.out.keep hf2 (by simp))
   have HBX2:=hid (HBX.out.keep hf2 (by simp))
   clear hf2 s0 s1 s2 hb g0 g1 g2 hz0
   have s0 : w2.cell? ⟨w.heap.size,0,none⟩ = some (.int .i64 9):=HBX2.out.cell 0
   have s1 : w2.cell? ⟨w.heap.size,1,none⟩ = some (.int .i64 n):=HBX2.out.cell 1
   have s2 : w2.cell? ⟨w.heap.size,2,none⟩ = some (.slice p (ar a).length c):=HBX2.out.cell 2
   have t0:=HBX2.out.frozen 0
   have t1:=HBX2.out.frozen 1
   have t2:=HBX2.out.frozen 2
   have hz0 : w.heap.size < w2.heap.size:=by have:=HBR2.out.lt;omega
   obtain ⟨hb,g0,g1,g2⟩:=HAT.out w2 HF2.out
   go_wp2_with fail
   go_roundg 1
   case measure => omega
   case rel => exact ⟨hid ((HF2.out.set3 (.inr (Nat.le_refl _)) _ _ _).alloc _),hid ((HBR2.out.keep ((Fr.refl [w.heap.size] _).set3 (b:=w.heap.size) (.inl (by simp)) _ _ _) (by simp)).alloc _),.inr ⟨rfl,hid ((HBX2.out.set3 _ _ _).alloc _)⟩⟩
  ·have s0 : wr.cell? ⟨w.heap.size,0,none⟩ = some (.int .i64 (kd x)):=HBX.out.cell 0
   have s1 : wr.cell? ⟨w.heap.size,1,none⟩ = some (.int .i64 (nm x)):=HBX.out.cell 1
   have s2 : wr.cell? ⟨w.heap.size,2,none⟩ = some (.slice p1 (ar x).length c1):=HBX.out.cell 2
   have r0 : wr.cell? ⟨w.heap.size + 1,0,none⟩ = some (.int .i64 0):=HBR.out.cell 0
   have r1 : wr.cell? ⟨w.heap.size + 1,1,none⟩ = some (.int .i64 0):=HBR.out.cell 1
   have r2 : wr.cell? ⟨w.heap.size + 1,2,none⟩ = some (.slice none 0 0):=HBR.out.cell 2
   have t0:=HBR.out.frozen 0
   have t1:=HBR.out.frozen 1
   have t2:=HBR.out.frozen 2
   have hz1 : w.heap.size + 1 < wr.heap.size:=HBR.out.lt
   clear hb g0 g1 g2
   go_wp2_with fail
   have hbx:=HBR.out.set3 (.int .i64 (kd x)) (.int .i64 (nm x)) (.slice p1 (ar x).length c1)
   have d0:=hbx.cell 0
   have d1:=hbx.cell 1
   have d2:=hbx.cell 2
   refine bodyPost_ret (v:=.agg #[.int .i64 (kd x),.int .i64 (nm x),.slice p1 (ar x).length c1]) (by simp [results,Try.results80,go_sem,d0,d1,d2]) rfl ⟨HFR.out.set3 (.inr (by omega)) _ _ _,_,rfl,?_⟩
   exact (K1.out.keep0 (HFR.out.set3 (.inr (by omega)) _ _ _))
namespace Un
def appStep (E : List Ty) (rec : Ty → Option Ty) (a : Ty) : Option (Unit × Option Ty):=
 if kd a = 9 then (if 0 ≤ nm a then match E[(nm a).toNat]? with
  | none => none
  | some x => if unsolved x then some ((),none) else if kd x = 9 then none else match rec x with
   | none => none
   | some r => some ((),some r)
  else none)
 else some ((),none)
def app (E : List Ty) : Nat → Ty → Option Ty
 | 0,_ => none
 | f + 1,t => match mapS (fun (_ : Unit) a => appStep E (app E f) a) () t with
  | none => none
  | some r => some r.2
theorem appStep_cases {E : List Ty} {rec : Ty → Option Ty} {a : Ty} {q : Unit × Option Ty} (h : appStep E rec a = some q) :
  (kd a ≠ 9 ∧ q = ((),none)) ∨ (∃ n x,kd a = 9 ∧ nm a = (n : Nat) ∧ E[n]? = some x ∧ unsolved x = true ∧ q = ((),none)) ∨ (∃ n x r,kd a = 9 ∧ nm a = (n : Nat) ∧ E[n]? = some x ∧ unsolved x = false ∧ kd x ≠ 9 ∧ rec x = some r ∧ q = ((),some r)):=by
 unfold appStep at h
 by_cases h9 : kd a = 9
 ·rw [if_pos h9] at h
  by_cases h0 : 0 ≤ nm a
  ·rw [if_pos h0] at h
   cases hx : E[(nm a).toNat]? with
   | none => simp [hx] at h
   | some x =>
    rw [hx] at h
    simp only at h
    by_cases hu : unsolved x = true
    ·rw [if_pos hu] at h
     exact .inr (.inl ⟨(nm a).toNat,x,h9,by omega,hx,hu,by simpa using h.symm⟩)
    ·rw [if_neg hu] at h
     by_cases hk : kd x = 9
     ·simp [hk] at h
     ·rw [if_neg hk] at h
      cases hr : rec x with
      | none => simp [hr] at h
      | some r =>
       rw [hr] at h
       exact .inr (.inr ⟨(nm a).toNat,x,r,h9,by omega,hx,by simpa using hu,hk,hr,by simpa using h.symm⟩)
  ·rw [if_neg h0] at h;cases h
 ·rw [if_neg h9] at h
  exact .inl ⟨h9,by simpa using h.symm⟩
end Un
open Un (appStep app)
structure AppV (w : World) (E : List Ty) (v : Value) (pE pA pF : Nat) : Prop where
 e : Blk w pE 22 #[v]
 a : Blk w pA 57 #[.func (.func 81) #[] #[.pointer (some ⟨pF,0,none⟩)]]
 f : Blk w pF 79 #[.func (.func 79) #[] #[.pointer (some ⟨pE,0,none⟩),.pointer (some ⟨pA,0,none⟩)]]
 v : TysV w (fun _ => True) E v
theorem enters_app1 : Enters 79:=fun _ _ => by kernel_rfl
theorem enters_app2 : Enters 81:=fun _ _ => by kernel_rfl
theorem AppV.lat {w1 w : World} {E : List Ty} {v : Value} {pE pA pF : Nat} (h : AppV w1 E v pE pA pF) (hl : Lat w1 w) : AppV w E v pE pA pF:=⟨h.e.lat hl,h.a.lat hl,h.f.lat hl,h.v.lat hl⟩
set_option maxRecDepth 100000 in
set_option maxHeartbeats 3200000 in
theorem app1_any (E : List Ty) (v : Value) (pE pA pF : Nat) (w1 w : World) (hA : AppV w1 E v pE pA pF) (hL : Lat w1 w) (rec : Ty → Option Ty)
  (hrec : ∀ x r,x ∈ E → rec x = some r → ∀ (cs : List Value) (w : World),Lat w1 w → TyV w (fun _ => True) x cs → Calls Try.prog 81 #[.agg cs.toArray,.pointer (some ⟨pF,0,none⟩)] w (NewP r w))
  (a : Ty) (cs : List Value) (h : TyV w (fun _ => True) a cs) (q : Unit × Option Ty) (hq : appStep E rec a = some q) :
  Calls Try.prog 79 #[.agg cs.toArray,.pointer (some ⟨pE,0,none⟩),.pointer (some ⟨pA,0,none⟩)] w (StepP [] (fun (_ : Unit) (w : World) => Lat w1 w) q w):=by
 have hE : ∀ (args : Array Value) (w : World),(callFunc 81 args).run Try.prog w = .ok (.enter 81 args) w:=enters_app2
 obtain ⟨p,c,rfl,_⟩:=h.shape
 have HL:=hid hL
 have hA2:=hA.lat hL
 have HA:=hid hA2
 have HT:=hid h
 rcases Un.appStep_cases hq with ⟨h9,rfl⟩ | ⟨n,x,h9,hn,hx,hu,rfl⟩ | ⟨n,x,r,h9,hn,hx,hu,hk,hr,rfl⟩
 ·have e1 : (kd a != 9) = true:=by simp [h9]
  have HD : Hid (StepP [] (fun (_ : Unit) (w : World) => Lat w1 w) ((),none) w (.returned (.tuple #[.agg #[.int .i64 0,.int .i64 0,.slice none 0 0],.bool false])) ((w.alloc (.cells #[.int .i64 (kd a),.int .i64 (nm a),.slice p (ar a).length c] 24)).alloc (.cells #[.int .i64 0,.int .i64 0,.slice none 0 0] 24))):=by
   have hf : Fr [] w ((w.alloc (.cells #[.int .i64 (kd a),.int .i64 (nm a),.slice p (ar a).length c] 24)).alloc (.cells #[.int .i64 0,.int .i64 0,.slice none 0 0] 24)):=((Fr.refl _ _).alloc _).alloc _
   exact hid ⟨hf,hL.fr hf,.inl ⟨rfl,rfl⟩⟩
  clear hA hA2 hL hq h hrec h9
  go_enter Try.func79,Try.ntmps79
  go_wp2_with fail
  exact bodyPost_ret (v:=.tuple #[.agg #[.int .i64 0,.int .i64 0,.slice none 0 0],.bool false]) (by simp [results,Try.results79,go_sem]) rfl HD.out
 ·have hnl : n < E.length:=(List.getElem?_eq_some_iff.1 hx).1
  rcases hA2.v.cases with ⟨rfl,_⟩ | ⟨_,b,o,cap,rfl,hc,hm,hat⟩
  ·simp at hnl
  have hlm:=hA2.v.len
  unfold maxLen at hlm hm
  obtain ⟨p1,c1,k1,hb,g0,g1,g2⟩:=hat.el (Fr.refl [] w) (by simp) hx
  have K1:=hid k1
  have HU:=hid hu
  have e4 : decide (n < E.length) = true:=by simpa using hnl
  have s0 : w.cell? ⟨pE,0,none⟩ = some (.slice (some ⟨b,o,none⟩) E.length cap):=hA2.e.cell 0
  have hz : pE < w.heap.size:=hA2.e.lt
  rw [h9,hn]
  have HF0 : Hid (Fr [] w ((w.alloc (.cells #[.int .i64 9,.int .i64 n,.slice p (ar a).length c] 24)).alloc (.cells #[.int .i64 0,.int .i64 0,.slice none 0 0] 24))):=hid (((Fr.refl _ _).alloc _).alloc _)
  have HB1 : Hid (Blk ((w.alloc (.cells #[.int .i64 9,.int .i64 n,.slice p (ar a).length c] 24)).alloc (.cells #[.int .i64 0,.int .i64 0,.slice none 0 0] 24)) (w.heap.size + 1) 24 #[.int .i64 0,.int .i64 0,.slice none 0 0]):=hid (Blk.new_at (by simp))
  clear hA hA2 hL hq h hrec h9 hn hx hu hat k1
  go_enter Try.func79,Try.ntmps79
  go_wp2_with fail
  refine (isunsolved_any x _ _ (fun _ => True) (K1.out.keep0 HF0.out)).mono ?_
  rw [HU.out]
  rintro e w2 ⟨rfl,hf2⟩
  have HF2:=hid (HF0.out.trans hf2)
  have HBR2:=hid (HB1.out.keep hf2 (by simp))
  clear hf2 s0 hz hb g0 g1 g2
  have r0 : w2.cell? ⟨w.heap.size + 1,0,none⟩ = some (.int .i64 0):=HBR2.out.cell 0
  have r1 : w2.cell? ⟨w.heap.size + 1,1,none⟩ = some (.int .i64 0):=HBR2.out.cell 1
  have r2 : w2.cell? ⟨w.heap.size + 1,2,none⟩ = some (.slice none 0 0):=HBR2.out.cell 2
  have t0:=HBR2.out.frozen 0
  have t1:=HBR2.out.frozen 1
  have t2:=HBR2.out.frozen 2
  have hz1 : w.heap.size + 1 < w2.heap.size:=HBR2.out.lt
  go_wp2_with fail
  have hbx:=HBR2.out.set3 (.int .i64 0) (.int .i64 0) (.slice none 0 0)
  have d0:=hbx.cell 0
  have d1:=hbx.cell 1
  have d2:=hbx.cell 2
  have hf3:=HF2.out.set3 (b:=w.heap.size + 1) (.inr (by omega)) (.int .i64 0) (.int .i64 0) (.slice none 0 0)
  exact bodyPost_ret (v:=.tuple #[.agg #[.int .i64 0,.int .i64 0,.slice none 0 0],.bool false]) (by simp [results,Try.results79,go_sem,d0,d1,d2]) rfl ⟨hf3,HL.out.fr hf3,.inl ⟨rfl,rfl⟩⟩
 ·have hnl : n < E.length:=(List.getElem?_eq_some_iff.1 hx).1
  have hmem : x ∈ E:=List.mem_of_getElem? hx
  have HR : Hid (∀ (cs : List Value) (w : World),Lat w1 w → TyV w (fun _ => True) x cs → Calls Try.prog 81 #[.agg cs.toArray,.pointer (some ⟨pF,0,none⟩)] w (NewP r w)):=hid (hrec x r hmem hr)
  obtain ⟨vv,hvv⟩ : ∃ vv,vv = v:=⟨_,rfl⟩
  rcases hA2.v.cases with ⟨rfl,_⟩ | ⟨_,b,o,cap,heq,hc,hm,hat⟩
  ·simp at hnl
  subst heq
  have hlm:=hA2.v.len
  unfold maxLen at hlm hm
  obtain ⟨p1,c1,k1,hb,g0,g1,g2⟩:=hat.el (Fr.refl [] w) (by simp) hx
  have K1:=hid k1
  have HU:=hid hu
  have HX:=hid hx
  have HK:=hid hk
  have H9:=hid h9
  have HNM:=hid hn
  have e4 : decide (n < E.length) = true:=by simpa using hnl
  have s0 : w.cell? ⟨pE,0,none⟩ = some (.slice (some ⟨b,o,none⟩) E.length cap):=hA2.e.cell 0
  have hz : pE < w.heap.size:=hA2.e.lt
  rw [h9,hn] at HT ⊢
  obtain ⟨w0,hw0⟩ : ∃ w0,w0 = (w.alloc (.cells #[.int .i64 9,.int .i64 n,.slice p (ar a).length c] 24)).alloc (.cells #[.int .i64 0,.int .i64 0,.slice none 0 0] 24):=⟨_,rfl⟩
  have HF0 : Hid (Fr [] w w0):=hid (by rw [hw0];exact ((Fr.refl _ _).alloc _).alloc _)
  have HB0 : Hid (Blk w0 w.heap.size 24 #[.int .i64 9,.int .i64 n,.slice p (ar a).length c]):=hid (by rw [hw0];exact (Blk.new _ _ _).alloc _)
  have HB1 : Hid (Blk w0 (w.heap.size + 1) 24 #[.int .i64 0,.int .i64 0,.slice none 0 0]):=hid (by rw [hw0];exact Blk.new_at (by simp))
  clear hA hA2 hL hq h hrec h9 hn hx hu hat k1 hk hr hmem hvv
  go_enter Try.func79,Try.ntmps79
  go_wp2_with fail
  rw [← hw0]
  clear hw0
  refine (isunsolved_any x _ _ (fun _ => True) (K1.out.keep0 HF0.out)).mono ?_
  rw [HU.out]
  rintro e w2 ⟨rfl,hf2⟩
  have HF2:=hid (HF0.out.trans hf2)
  have HBX2:=hid (HB0.out.keep hf2 (by simp))
  have HBR2:=hid (HB1.out.keep hf2 (by simp))
  have HA2:=hid (HA.out.lat HF2.out.lat)
  clear hf2 s0 hz hb g0 g1 g2
  have r0 : w2.cell? ⟨w.heap.size,0,none⟩ = some (.int .i64 9):=HBX2.out.cell 0
  have r1 : w2.cell? ⟨w.heap.size,1,none⟩ = some (.int .i64 n):=HBX2.out.cell 1
  have r2 : w2.cell? ⟨w.heap.size,2,none⟩ = some (.slice p (ar a).length c):=HBX2.out.cell 2
  have q0 : w2.cell? ⟨pE,0,none⟩ = some (.slice (some ⟨b,o,none⟩) E.length cap):=HA2.out.e.cell 0
  have q1 : w2.cell? ⟨pA,0,none⟩ = some (.func (.func 81) #[] #[.pointer (some ⟨pF,0,none⟩)]):=HA2.out.a.cell 0
  have l0 : w.heap.size < w2.heap.size:=HBX2.out.lt
  have l1 : pE < w2.heap.size:=HA2.out.e.lt
  have l2 : pA < w2.heap.size:=HA2.out.a.lt
  have l3 : w.heap.size + 1 < w2.heap.size:=HBR2.out.lt
  have d0 : w2.drew.cell? ⟨w.heap.size,0,none⟩ = some (.int .i64 9):=r0
  have d1 : w2.drew.cell? ⟨w.heap.size,1,none⟩ = some (.int .i64 n):=r1
  have d2 : w2.drew.cell? ⟨w.heap.size,2,none⟩ = some (.slice p (ar a).length c):=r2
  have d3 : w2.drew.cell? ⟨pE,0,none⟩ = some (.slice (some ⟨b,o,none⟩) E.length cap):=q0
  have d4 : w2.drew.cell? ⟨pA,0,none⟩ = some (.func (.func 81) #[] #[.pointer (some ⟨pF,0,none⟩)]):=q1
  have m0 : w.heap.size < w2.drew.heap.size:=l0
  have m1 : pE < w2.drew.heap.size:=l1
  have m2 : pA < w2.drew.heap.size:=l2
  have HD2 : Hid (Fr [] w w2.drew):=hid HF2.out.drew
  have HTD : Hid (TyV w2.drew (fun _ => True) a [.int .i64 9,.int .i64 n,.slice p (ar a).length c]):=hid (HT.out.keep0 HD2.out)
  have HVD : Hid (TysV w2.drew (fun _ => True) E (.slice (some ⟨b,o,none⟩) E.length cap)):=hid (HA.out.v.keep0 HD2.out)
  have HFA : Hid (∀ w3,Fr [] w2.drew w3 → w3.cell? ⟨pA,0,none⟩ = some (.func (.func 81) #[] #[.pointer (some ⟨pF,0,none⟩)]) ∧ pA < w3.heap.size ∧ Lat w1 w3):=hid (fun w3 hf => ⟨by rw [hf.cell (by exact l2) (by simp)];exact q1,Nat.lt_of_lt_of_le l2 hf.size,HL.out.fr (HD2.out.trans hf)⟩)
  have HFB : Hid (∀ w4,Fr [] w2.drew w4 → Blk w4 (w.heap.size + 1) 24 #[.int .i64 0,.int .i64 0,.slice none 0 0]):=hid (fun w4 hf => HBR2.out.keep (X:=[]) ((Fr.refl [] w2).drew.trans hf) (by simp))
  go_wp2_with fail
  go_region_law (first | (go_simp;go_at_call 80;refine (endof_any E a x _ _ _ (fun _ => True) (fun _ => True) n HVD.out HTD.out H9.out HNM.out HX.out HU.out HK.out).mono ?_;rintro e w3 ⟨hf3,ds,rfl,hty⟩;obtain ⟨p3,c3,rfl,_⟩:=hty.shape;have HF3:=hid hf3;have HT3:=hid hty;obtain ⟨a1,a2,a3⟩:=HFA.out w3 hf3;have HL3:=hid a3;clear hf3 hty a3) | (go_simp;go_at_call 81;refine (HR.out _ _ HL3.out HT3.out).mono ?_;rintro e w4 ⟨hf4,ds,rfl,hty⟩;obtain ⟨p4,c4,rfl,_⟩:=hty.shape;have HF4:=hid (HF3.out.trans hf4);have HT4:=hid (TyV.weak (N':=fun k => w.heap.size + 2 ≤ k) hty (fun k hk h => by have h1:=HF3.out.size;have h2:=l3;have h3 : w3.heap.size ≤ k:=h;have h4 : w2.drew.heap.size = w2.heap.size:=rfl;omega));have HB4:=hid (HFB.out w4 HF4.out);have x0:=HB4.out.cell 0;have x1:=HB4.out.cell 1;have x2:=HB4.out.cell 2;have y0:=HB4.out.frozen 0;have y1:=HB4.out.frozen 1;have y2:=HB4.out.frozen 2;have z0:=HB4.out.lt;clear hf4 hty))
  all_goals
   have hbx:=HB4.out.set3 (.int .i64 (kd r)) (.int .i64 (nm r)) (.slice p4 (ar r).length c4)
   have HY0:=hid (hbx.cell 0)
   have HY1:=hid (hbx.cell 1)
   have HY2:=hid (hbx.cell 2)
   have hf5:=(HD2.out.trans HF4.out).set3 (b:=w.heap.size + 1) (.inr (by omega)) (.int .i64 (kd r)) (.int .i64 (nm r)) (.slice p4 (ar r).length c4)
   have HF5:=hid hf5
   have HT5 : Hid (TyV (((w4.setCell ⟨w.heap.size + 1,0,none⟩ (.int .i64 (kd r))).setCell ⟨w.heap.size + 1,1,none⟩ (.int .i64 (nm r))).setCell ⟨w.heap.size + 1,2,none⟩ (.slice p4 (ar r).length c4)) (fun k => w.heap.size ≤ k) r [.int .i64 (kd r),.int .i64 (nm r),.slice p4 (ar r).length c4]):=hid (HT4.out.mono (fun k hk hl => ⟨by omega,by simpa [World.setCell] using hl,set3_block _ _ _ (by omega)⟩))
   clear hbx hf5 x0 x1 x2 y0 y1 y2 z0
   go_wp2_with fail
   have d0:=HY0.out
   have d1:=HY1.out
   have d2:=HY2.out
   exact bodyPost_ret (v:=.tuple #[.agg #[.int .i64 (kd r),.int .i64 (nm r),.slice p4 (ar r).length c4],.bool true]) (by simp [results,Try.results79,go_sem,d0,d1,d2]) rfl ⟨HF5.out,HL.out.fr HF5.out,.inr ⟨r,_,rfl,rfl,HT5.out⟩⟩
end Go.Proofs.Ytcdlnhfgehhkcaa
