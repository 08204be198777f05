/- part of the proof -/
import Derived.Test.YtcdlnhfgehhkcaaQ33
import Derived.Test.YtcdlnhfgehhkcaaQ28
import Derived.Test.YtcdlnhfgehhkcaaQ36
set_option linter.unusedVariables false
set_option linter.unusedSimpArgs false
set_option linter.unusedSectionVars false
namespace Go.Proofs.Ytcdlnhfgehhkcaa
open Go.RowKit Go.Lib
open Un (kd nm ar size sizes over occ Res depth depths)
def deepN (d : Nat) (most : Int) : Int:=if (d : Int) ≤ most then d else 0
set_option maxRecDepth 100000 in
set_option maxHeartbeats 1600000 in
theorem deep_low (N : Nat → Prop) (v : Value) (t : Ty) (cs : List Value) (w : World) (steps most : Int) (h : TyV w N t cs) (hm : most < 1) :
  Calls Try.prog 44 #[v,.agg cs.toArray,.int .i64 steps,.int .i64 most] w (NumP 0 w):=by
 obtain ⟨p,c,rfl,ha⟩:=h.shape
 have e1 : decide (most < 1) = true:=by simpa using hm
 clear h ha hm
 go_enter Try.func44,Try.ntmps44
 go_wp2_with fail
 go_ret
 exact ⟨rfl,(Fr.refl _ _).alloc _⟩
set_option maxRecDepth 100000 in
set_option maxHeartbeats 3200000 in
theorem deep_str (N : Nat → Prop) (s : List Ty) (v : Value) (t : Ty) (cs : List Value) (w : World) (steps most : Int) (hv : TysV w N s v) (h : TyV w N t cs) (hs0 : 0 ≤ steps) (hs1 : steps ≤ 1000) (hm1 : most ≤ 1000) (hm0 : 1 ≤ most) (rs : List Ty) (hrl : rs.length = (ar t).length)
  (ihl : ∀ (j : Nat) (x y : Ty),(ar t)[j]? = some x → rs[j]? = some y → ∀ (cs : List Value) (wx : World),Fr [] w wx → TyV wx N x cs → Calls Try.prog 44 #[v,.agg cs.toArray,.int .i64 steps,.int .i64 (most - 1)] wx (NumP (deepN (depth y) (most - 1)) wx)) (h9 : kd t ≠ 9) :
  Calls Try.prog 44 #[v,.agg cs.toArray,.int .i64 steps,.int .i64 most] w (NumP (deepN (depth (.mk (kd t) (nm t) rs)) most) w):=by
 obtain ⟨T0,hT0⟩ : ∃ T0,T0 = w.heap.size:=⟨_,rfl⟩
 obtain ⟨p,c,rfl,ha⟩:=h.shape
 have hlm:=ha.len
 unfold maxLen at hlm
 have HV:=hid hv
 have HT:=hid h
 have HA:=hid ha
 obtain ⟨w1,hw1⟩ : ∃ w1,w1 = w.alloc (.cells #[.int .i64 (kd t),.int .i64 (nm t),.slice p (ar t).length c] 24):=⟨_,rfl⟩
 have HF1 : Hid (Fr [] w w1):=hid (by rw [hw1];exact (Fr.refl _ _).alloc _)
 have HBT1 : Hid (Blk w1 T0 24 #[.int .i64 (kd t),.int .i64 (nm t),.slice p (ar t).length c]):=hid (by rw [hw1,hT0];exact Blk.new _ _ _)
 have HT0 : Hid (w.heap.size = T0):=hid hT0.symm
 have em1 : decide (most < 1) = false:=by simp;omega
 have em2 : decide (steps < 0) = false:=by simp;omega
 have e1 : (kd t == 9) = false:=by simp [h9]
 have IH:=hid ihl
 have HRL:=hid hrl
 have HVA : Hid (∀ wx,Fr [] w wx → Calls Try.prog 59 #[.agg #[.int .i64 (kd t),.int .i64 (nm t),.slice p (ar t).length c]] wx (LookP (kd t == 9) wx)):=hid (fun wx hf => rvariable_any t _ wx _ (HT.out.keep0 hf))
 obtain ⟨l,hl⟩ : ∃ l,l = ar t:=⟨_,rfl⟩
 rw [← hl] at IH HRL HA HVA HBT1 hw1 hlm ⊢
 clear hv h ha hrl ihl hl h9
 go_enter Try.func44,Try.ntmps44
 go_wp2_with fail
 rw [← hw1]
 clear hw1 hT0
 refine (HVA.out w1 HF1.out).mono ?_
 rw [e1]
 rintro e w2 ⟨rfl,hf2⟩
 have HF2:=hid (HF1.out.trans hf2)
 have HBT2:=hid (HBT1.out.keep hf2 (by simp))
 have x1 : w2.cell? ⟨T0,1,none⟩ = some (.int .i64 (nm t)):=HBT2.out.cell 1
 have xl : T0 < w2.heap.size:=HBT2.out.lt
 rw [HT0.out]
 clear hf2 e1
 go_wp2_with fail
 clear x1 xl em1 em2
 go_loopw [9,10] (fun d x wr => ∃ j : Nat,x = .int .i64 j ∧ j ≤ l.length ∧ d = .int .i64 (depths (rs.take j)) ∧ (depths (rs.take j) : Int) ≤ most - 1 ∧ Hid (Fr [] w wr) ∧ Hid (Blk wr T0 24 #[.int .i64 (kd t),.int .i64 (nm t),.slice p l.length c])) (fun _ x _ => l.length - (RowKit.intOf x).toNat)
 case atStart => exact ⟨0,rfl,Nat.zero_le _,by rw [List.take_zero,depths];rfl,by rw [List.take_zero,depths];simp;omega,HF2,HBT2⟩
 case round =>
  obtain ⟨j,rfl,hj,rfl,hdm,HFR,HBT⟩:=hrel
  have b2 : wr.cell? ⟨T0,2,none⟩ = some (.slice p l.length c):=HBT.out.cell 2
  have bl : T0 < wr.heap.size:=HBT.out.lt
  obtain ⟨D,hD⟩ : ∃ D,D = depths (rs.take j):=⟨_,rfl⟩
  rw [← hD] at hdm ⊢
  by_cases hlt : j < l.length
  ·have hd2 : decide ((j : Int) < (l.length : Int)) = true:=by simp;omega
   have hd3 : decide (j < l.length) = true:=by simpa using hlt
   obtain ⟨b,o,rfl,hat⟩ : ∃ b o,p = some ⟨b,o,none⟩ ∧ TysAt w N l b o:=by
    rcases HA.out.cases with ⟨h,_⟩ | ⟨_,b,o,cap,heq,_,_,hat⟩
    ·rw [h] at hlt;simp at hlt
    ·simp only [Value.slice.injEq] at heq
     exact ⟨b,o,heq.1,hat⟩
   obtain ⟨p1,c1,k1,hb,g0,g1,g2⟩:=hat.el HFR.out (by simp) (List.getElem?_eq_getElem hlt)
   obtain ⟨x,hx⟩ : ∃ x,x = l[j]:=⟨_,rfl⟩
   have HLX : Hid (l[j]? = some x):=hid (by rw [hx];exact List.getElem?_eq_getElem hlt)
   rw [← hx] at g0 g1 g2 k1
   have K1:=hid k1
   have hjr : j < rs.length:=by rw [HRL.out];exact hlt
   obtain ⟨y,hyy⟩ : ∃ y,y = rs[j]:=⟨_,rfl⟩
   have HY : Hid (rs[j]? = some y):=hid (by rw [hyy];exact List.getElem?_eq_getElem hjr)
   have HDT : Hid (depths (rs.take (j + 1)) = max D (depth y)):=hid (by rw [depths_take hjr,← hyy,← hD])
   have HCL:=hid (IH.out j x y HLX.out HY.out _ wr HFR.out K1.out)
   have hdp : 1 ≤ depth y:=Un.depth_pos y
   have HDR : Hid (depth y ≤ depths rs):=hid (Un.depth_mem (List.mem_of_getElem? HY.out))
   clear k1 hat hx hyy hD hjr hb
   by_cases hle : (depth y : Int) ≤ most - 1
   ·have hdn : deepN (depth y) (most - 1) = depth y:=by unfold deepN;rw [if_pos hle]
    rw [hdn] at HCL
    obtain ⟨Y,hY⟩ : ∃ Y,Y = depth y:=⟨_,rfl⟩
    rw [← hY] at HCL HDT hle hdp
    have ez : ((Y : Int) == 0) = false:=by simp;omega
    clear hdn hY
    go_wp2_with fail
    refine HCL.out.mono ?_
    rintro e w3 ⟨rfl,hf3⟩
    have HF3:=hid (HFR.out.trans hf3)
    have HBT3:=hid (HBT.out.keep hf3 (by simp))
    clear hf3 g0 g1 g2 b2 bl
    go_wp2_with fail
    go_roundw
    case rel => exact ⟨j + 1,by go_num,by omega,by rw [HDT.out];congr 1;omega,by rw [HDT.out];omega,HF3,HBT3⟩
    case measure => simp [RowKit.intOf];omega
   ·have hdn : deepN (depth y) (most - 1) = 0:=by unfold deepN;rw [if_neg hle]
    rw [hdn] at HCL
    have HR : Hid (deepN (depth (.mk (kd t) (nm t) rs)) most = 0):=hid (by
     unfold deepN
     have:=HDR.out
     rw [Un.depth_mk,if_neg (by omega)])
    clear hdn
    go_wp2_with fail
    refine HCL.out.mono ?_
    rintro e w3 ⟨rfl,hf3⟩
    have HF3:=hid (HFR.out.trans hf3)
    clear hf3 g0 g1 g2 b2 bl
    go_wp2_with fail
    go_ret
    exact ⟨by rw [HR.out];rfl,HF3.out⟩
  ·have hd2 : decide ((j : Int) < (l.length : Int)) = false:=by simp;omega
   have hd3 : decide (j < l.length) = false:=by simpa using hlt
   obtain rfl : j = l.length:=by omega
   have htk : rs.take l.length = rs:=List.take_of_length_le (by rw [HRL.out];exact Nat.le_refl _)
   rw [htk] at hD
   have HR : Hid (deepN (depth (.mk (kd t) (nm t) rs)) most = (D : Int) + 1):=hid (by
    unfold deepN
    rw [Un.depth_mk,← hD,if_pos (by omega)]
    omega)
   clear htk hD
   go_wp2_with fail
   go_ret
   exact ⟨by rw [HR.out];try rfl,HFR.out⟩
set_option maxRecDepth 100000 in
set_option maxHeartbeats 3200000 in
theorem deep_uns (N : Nat → Prop) (s : List Ty) (v : Value) (t : Ty) (cs : List Value) (w : World) (steps most : Int) (hv : TysV w N s v) (h : TyV w N t cs) (hs0 : 0 ≤ steps) (hs1 : steps ≤ 1000) (hm1 : most ≤ 1000) (hm0 : 1 ≤ most) (rs : List Ty) (hrl : rs.length = (ar t).length)
  (ihl : ∀ (j : Nat) (x y : Ty),(ar t)[j]? = some x → rs[j]? = some y → ∀ (cs : List Value) (wx : World),Fr [] w wx → TyV wx N x cs → Calls Try.prog 44 #[v,.agg cs.toArray,.int .i64 steps,.int .i64 (most - 1)] wx (NumP (deepN (depth y) (most - 1)) wx)) (h9 : kd t = 9) (n : Nat) (hn : nm t = n) (z : Ty) (hz : s[n]? = some z) (hzk : kd z = 0) :
  Calls Try.prog 44 #[v,.agg cs.toArray,.int .i64 steps,.int .i64 most] w (NumP (deepN (depth (.mk (kd t) (nm t) rs)) most) w):=by
 obtain ⟨T0,hT0⟩ : ∃ T0,T0 = w.heap.size:=⟨_,rfl⟩
 obtain ⟨p,c,rfl,ha⟩:=h.shape
 have hlm:=ha.len
 unfold maxLen at hlm
 have HV:=hid hv
 have HT:=hid h
 have HA:=hid ha
 obtain ⟨w1,hw1⟩ : ∃ w1,w1 = w.alloc (.cells #[.int .i64 (kd t),.int .i64 (nm t),.slice p (ar t).length c] 24):=⟨_,rfl⟩
 have HF1 : Hid (Fr [] w w1):=hid (by rw [hw1];exact (Fr.refl _ _).alloc _)
 have HBT1 : Hid (Blk w1 T0 24 #[.int .i64 (kd t),.int .i64 (nm t),.slice p (ar t).length c]):=hid (by rw [hw1,hT0];exact Blk.new _ _ _)
 have HT0 : Hid (w.heap.size = T0):=hid hT0.symm
 have em1 : decide (most < 1) = false:=by simp;omega
 have em2 : decide (steps < 0) = false:=by simp;omega
 have e1 : (kd t == 9) = true:=by simp [h9]
 have HZK:=hid hzk
 obtain ⟨ps,kp,rfl⟩:=HV.out.shape
 obtain ⟨bs,os,rfl,hat⟩:=TysV.elem HV.out hz
 have hnl : n < s.length:=(List.getElem?_eq_some_iff.1 hz).1
 have e4 : decide (n < s.length) = true:=by simpa using hnl
 have e5 : decide ((n : Int) < (s.length : Int)) = true:=by simp;omega
 have e6 : (n : Int) < (s.length : Int):=by omega
 have HLL:=hid HV.out.len
 have HN:=hid hn
 have HAT:=hid hat
 have HZ:=hid hz
 have IH:=hid ihl
 have HRL:=hid hrl
 have HVA : Hid (∀ wx,Fr [] w wx → Calls Try.prog 59 #[.agg #[.int .i64 (kd t),.int .i64 (nm t),.slice p (ar t).length c]] wx (LookP (kd t == 9) wx)):=hid (fun wx hf => rvariable_any t _ wx _ (HT.out.keep0 hf))
 obtain ⟨l,hl⟩ : ∃ l,l = ar t:=⟨_,rfl⟩
 rw [← hl] at IH HRL HA HVA HBT1 hw1 hlm ⊢
 clear hv h ha hrl ihl hl h9 hn hat hz hzk
 go_enter Try.func44,Try.ntmps44
 go_wp2_with fail
 rw [← hw1]
 clear hw1 hT0
 refine (HVA.out w1 HF1.out).mono ?_
 rw [e1]
 rintro e w2 ⟨rfl,hf2⟩
 have HF2:=hid (HF1.out.trans hf2)
 have HBT2:=hid (HBT1.out.keep hf2 (by simp))
 have x1 : w2.cell? ⟨T0,1,none⟩ = some (.int .i64 (nm t)):=HBT2.out.cell 1
 have xl : T0 < w2.heap.size:=HBT2.out.lt
 rw [HT0.out]
 clear hf2 e1
 obtain ⟨p9,c9,k9,hb9,g90,g91,g92⟩:=HAT.out.el HF2.out (by simp) HZ.out
 rw [HZK.out] at g90
 clear k9 g91 g92
 rw [HN.out] at x1
 go_wp2_with fail
 clear x1 xl em1 em2
 go_loopw [9,10] (fun d x wr => ∃ j : Nat,x = .int .i64 j ∧ j ≤ l.length ∧ d = .int .i64 (depths (rs.take j)) ∧ (depths (rs.take j) : Int) ≤ most - 1 ∧ Hid (Fr [] w wr) ∧ Hid (Blk wr T0 24 #[.int .i64 (kd t),.int .i64 (nm t),.slice p l.length c])) (fun _ x _ => l.length - (RowKit.intOf x).toNat)
 case atStart => exact ⟨0,rfl,Nat.zero_le _,by rw [List.take_zero,depths];rfl,by rw [List.take_zero,depths];simp;omega,HF2,HBT2⟩
 case round =>
  obtain ⟨j,rfl,hj,rfl,hdm,HFR,HBT⟩:=hrel
  have b2 : wr.cell? ⟨T0,2,none⟩ = some (.slice p l.length c):=HBT.out.cell 2
  have bl : T0 < wr.heap.size:=HBT.out.lt
  obtain ⟨D,hD⟩ : ∃ D,D = depths (rs.take j):=⟨_,rfl⟩
  rw [← hD] at hdm ⊢
  by_cases hlt : j < l.length
  ·have hd2 : decide ((j : Int) < (l.length : Int)) = true:=by simp;omega
   have hd3 : decide (j < l.length) = true:=by simpa using hlt
   obtain ⟨b,o,rfl,hat⟩ : ∃ b o,p = some ⟨b,o,none⟩ ∧ TysAt w N l b o:=by
    rcases HA.out.cases with ⟨h,_⟩ | ⟨_,b,o,cap,heq,_,_,hat⟩
    ·rw [h] at hlt;simp at hlt
    ·simp only [Value.slice.injEq] at heq
     exact ⟨b,o,heq.1,hat⟩
   obtain ⟨p1,c1,k1,hb,g0,g1,g2⟩:=hat.el HFR.out (by simp) (List.getElem?_eq_getElem hlt)
   obtain ⟨x,hx⟩ : ∃ x,x = l[j]:=⟨_,rfl⟩
   have HLX : Hid (l[j]? = some x):=hid (by rw [hx];exact List.getElem?_eq_getElem hlt)
   rw [← hx] at g0 g1 g2 k1
   have K1:=hid k1
   have hjr : j < rs.length:=by rw [HRL.out];exact hlt
   obtain ⟨y,hyy⟩ : ∃ y,y = rs[j]:=⟨_,rfl⟩
   have HY : Hid (rs[j]? = some y):=hid (by rw [hyy];exact List.getElem?_eq_getElem hjr)
   have HDT : Hid (depths (rs.take (j + 1)) = max D (depth y)):=hid (by rw [depths_take hjr,← hyy,← hD])
   have HCL:=hid (IH.out j x y HLX.out HY.out _ wr HFR.out K1.out)
   have hdp : 1 ≤ depth y:=Un.depth_pos y
   have HDR : Hid (depth y ≤ depths rs):=hid (Un.depth_mem (List.mem_of_getElem? HY.out))
   clear k1 hat hx hyy hD hjr hb
   by_cases hle : (depth y : Int) ≤ most - 1
   ·have hdn : deepN (depth y) (most - 1) = depth y:=by unfold deepN;rw [if_pos hle]
    rw [hdn] at HCL
    obtain ⟨Y,hY⟩ : ∃ Y,Y = depth y:=⟨_,rfl⟩
    rw [← hY] at HCL HDT hle hdp
    have ez : ((Y : Int) == 0) = false:=by simp;omega
    clear hdn hY
    go_wp2_with fail
    refine HCL.out.mono ?_
    rintro e w3 ⟨rfl,hf3⟩
    have HF3:=hid (HFR.out.trans hf3)
    have HBT3:=hid (HBT.out.keep hf3 (by simp))
    clear hf3 g0 g1 g2 b2 bl
    go_wp2_with fail
    go_roundw
    case rel => exact ⟨j + 1,by go_num,by omega,by rw [HDT.out];congr 1;omega,by rw [HDT.out];omega,HF3,HBT3⟩
    case measure => simp [RowKit.intOf];omega
   ·have hdn : deepN (depth y) (most - 1) = 0:=by unfold deepN;rw [if_neg hle]
    rw [hdn] at HCL
    have HR : Hid (deepN (depth (.mk (kd t) (nm t) rs)) most = 0):=hid (by
     unfold deepN
     have:=HDR.out
     rw [Un.depth_mk,if_neg (by omega)])
    clear hdn
    go_wp2_with fail
    refine HCL.out.mono ?_
    rintro e w3 ⟨rfl,hf3⟩
    have HF3:=hid (HFR.out.trans hf3)
    clear hf3 g0 g1 g2 b2 bl
    go_wp2_with fail
    go_ret
    exact ⟨by rw [HR.out];rfl,HF3.out⟩
  ·have hd2 : decide ((j : Int) < (l.length : Int)) = false:=by simp;omega
   have hd3 : decide (j < l.length) = false:=by simpa using hlt
   obtain rfl : j = l.length:=by omega
   have htk : rs.take l.length = rs:=List.take_of_length_le (by rw [HRL.out];exact Nat.le_refl _)
   rw [htk] at hD
   have HR : Hid (deepN (depth (.mk (kd t) (nm t) rs)) most = (D : Int) + 1):=hid (by
    unfold deepN
    rw [Un.depth_mk,← hD,if_pos (by omega)]
    omega)
   clear htk hD
   go_wp2_with fail
   go_ret
   exact ⟨by rw [HR.out];try rfl,HFR.out⟩
set_option maxRecDepth 100000 in
set_option maxHeartbeats 3200000 in
theorem deep_sol (N : Nat → Prop) (s : List Ty) (v : Value) (t : Ty) (cs : List Value) (w : World) (steps most : Int) (hv : TysV w N s v) (h : TyV w N t cs) (hs0 : 0 ≤ steps) (hs1 : steps ≤ 1000) (hm1 : most ≤ 1000) (hm0 : 1 ≤ most) (h9 : kd t = 9) (n : Nat) (hn : nm t = n) (z : Ty) (hz : s[n]? = some z) (hzk : kd z ≠ 0) (R : Int)
  (ihl : ∀ (cs : List Value) (wx : World),Fr [] w wx → TyV wx N z cs → Calls Try.prog 44 #[v,.agg cs.toArray,.int .i64 (steps - 1),.int .i64 most] wx (NumP R wx)) :
  Calls Try.prog 44 #[v,.agg cs.toArray,.int .i64 steps,.int .i64 most] w (NumP R w):=by
 obtain ⟨T0,hT0⟩ : ∃ T0,T0 = w.heap.size:=⟨_,rfl⟩
 obtain ⟨p,c,rfl,ha⟩:=h.shape
 have hlm:=ha.len
 unfold maxLen at hlm
 have HV:=hid hv
 have HT:=hid h
 have HA:=hid ha
 obtain ⟨w1,hw1⟩ : ∃ w1,w1 = w.alloc (.cells #[.int .i64 (kd t),.int .i64 (nm t),.slice p (ar t).length c] 24):=⟨_,rfl⟩
 have HF1 : Hid (Fr [] w w1):=hid (by rw [hw1];exact (Fr.refl _ _).alloc _)
 have HBT1 : Hid (Blk w1 T0 24 #[.int .i64 (kd t),.int .i64 (nm t),.slice p (ar t).length c]):=hid (by rw [hw1,hT0];exact Blk.new _ _ _)
 have HT0 : Hid (w.heap.size = T0):=hid hT0.symm
 have em1 : decide (most < 1) = false:=by simp;omega
 have em2 : decide (steps < 0) = false:=by simp;omega
 obtain ⟨ps,kp,rfl⟩:=HV.out.shape
 obtain ⟨bs,os,rfl,hat⟩:=TysV.elem HV.out hz
 have hnl : n < s.length:=(List.getElem?_eq_some_iff.1 hz).1
 have e4 : decide (n < s.length) = true:=by simpa using hnl
 have e5 : decide ((n : Int) < (s.length : Int)) = true:=by simp;omega
 have e6 : (n : Int) < (s.length : Int):=by omega
 have HLL:=hid HV.out.len
 have HN:=hid hn
 have HAT:=hid hat
 have HZ:=hid hz
 have e1 : (kd t == 9) = true:=by simp [h9]
 have ek : (kd z != 0) = true:=by simp [hzk]
 have IH:=hid ihl
 have HVA : Hid (∀ wx,Fr [] w wx → Calls Try.prog 59 #[.agg #[.int .i64 (kd t),.int .i64 (nm t),.slice p (ar t).length c]] wx (LookP (kd t == 9) wx)):=hid (fun wx hf => rvariable_any t _ wx _ (HT.out.keep0 hf))
 clear hv h ha ihl h9 hn hat hz hzk
 go_enter Try.func44,Try.ntmps44
 go_wp2_with fail
 rw [← hw1]
 clear hw1 hT0
 refine (HVA.out w1 HF1.out).mono ?_
 rw [e1]
 rintro e w2 ⟨rfl,hf2⟩
 have HF2:=hid (HF1.out.trans hf2)
 have HBT2:=hid (HBT1.out.keep hf2 (by simp))
 have x1 : w2.cell? ⟨T0,1,none⟩ = some (.int .i64 (nm t)):=HBT2.out.cell 1
 have xl : T0 < w2.heap.size:=HBT2.out.lt
 rw [HT0.out]
 clear hf2 e1
 obtain ⟨p9,c9,k9,hb9,g90,g91,g92⟩:=HAT.out.el HF2.out (by simp) HZ.out
 have K9:=hid k9
 clear k9
 rw [HN.out] at x1
 go_wp2_with fail
 refine (IH.out _ w2 HF2.out K9.out).mono ?_
 rintro e w3 ⟨rfl,hf3⟩
 have HF3:=hid (HF2.out.trans hf3)
 clear hf3 g90 g91 g92 x1 xl
 go_wp2_with fail
 go_ret
 exact ⟨rfl,HF3.out⟩
theorem deep_any (N : Nat → Prop) (s : List Ty) (v : Value) (hs : Un.Okl s) (rk : Nat → Nat) (hk : Un.Rk s rk) {t r : Ty} (hr : Res s t r) : over s.length t = true → ∀ (steps most : Int),(∀ u : Nat,u < s.length → occ u t = true → (rk u : Int) + 1 ≤ steps) → 0 ≤ steps → steps ≤ 1000 → -1000 ≤ most → most ≤ 1000 → ∀ (cs : List Value) (w : World),TysV w N s v → TyV w N t cs →
  Calls Try.prog 44 #[v,.agg cs.toArray,.int .i64 steps,.int .i64 most] w (NumP (deepN (depth r) most) w):=by
 have low : ∀ (t r : Ty) (steps most : Int),most < 1 → ∀ (cs : List Value) (w : World),TyV w N t cs → Calls Try.prog 44 #[v,.agg cs.toArray,.int .i64 steps,.int .i64 most] w (NumP (deepN (depth r) most) w):=fun t r steps most hm cs w h => by
  have e : deepN (depth r) most = 0:=by unfold deepN;have:=Un.depth_pos r;rw [if_neg (by omega)]
  rw [e]
  exact deep_low N v t cs w steps most h hm
 induction hr with
 | uns t n x h9 hn hx hu =>
  intro ho steps most hst h0 h1 hm1 hm2 cs w hv h
  by_cases hm : most < 1
  ·exact low t t steps most hm cs w h
  ·have har:=(Un.vin_var (Un.vin_of_over _ _ ho) h9).2.2
   have e : t = .mk (kd t) (nm t) []:=by
    cases t with
    | mk k i al => have h' : al = []:=har;rw [h'];rfl
   have hzk : kd x = 0:=by
    rcases hs x (List.mem_of_getElem? hx) with rfl | h1
    ·rfl
    ·rw [Un.over_uns h1] at hu;cases hu
   have:=deep_uns N s v t cs w steps most hv h h0 h1 hm2 (by omega) [] (by rw [har]) (fun j x y hx => by rw [har] at hx;simp at hx) h9 n hn x hx hzk
   rw [← e] at this
   exact this
 | sol t n x r h9 hn hx hu hr ih =>
  intro ho steps most hst h0 h1 hm1 hm2 cs w hv h
  by_cases hm : most < 1
  ·exact low t r steps most hm cs w h
  ·have hxo:=(hs x (List.mem_of_getElem? hx)).resolve_left (fun e => by subst e;cases hu)
   have hnl:=(List.getElem?_eq_some_iff.1 hx).1
   have h2:=hst n hnl (by rw [← hn];exact Un.occ_self h9)
   exact deep_sol N s v t cs w steps most hv h h0 h1 hm2 (by omega) h9 n hn x hx (Un.over_kd hxo) _ (fun cs wx hf hx2 => ih hxo (steps - 1) most (fun u hu ho2 => by
    have:=hk n u x hx hu ho2
    omega) (by omega) (by omega) hm1 hm2 cs wx (hv.keep0 hf) hx2)
 | str k i al rs h9 hl hel ih =>
  intro ho steps most hst h0 h1 hm1 hm2 cs w hv h
  by_cases hm : most < 1
  ·exact low _ _ steps most hm cs w h
  ·refine deep_str N s v (.mk k i al) cs w steps most hv h h0 h1 hm2 (by omega) rs hl (fun j x y hx hy cs wx hf hx2 => ?_) h9
   have hxm : x ∈ al:=List.mem_of_getElem? hx
   rw [Un.over_mk h9,Bool.and_eq_true,List.all_eq_true] at ho
   exact ih j x y hx hy (ho.2 x hxm) steps (most - 1) (fun u hu ho2 => hst u hu (by rw [Un.occ_mk h9,List.any_eq_true];exact ⟨x,hxm,ho2⟩)) h0 h1 (by omega) (by omega) cs wx (hv.keep0 hf) hx2
open Un (kd nm ar size sizes over occ Res depth Okl Ranked Rk boundedB)
namespace Un
structure FormedP (s : List Ty) : Prop where
 okl : Okl s
 ranked : Ranked s
 deep : ∀ (i : Nat) (z : Ty),i < s.length → Res s (var i) z → depth z ≤ 8
theorem goodT_okl {s : List Ty} : (∀ x ∈ s,goodT s.length x = true) ↔ Okl s:=by
 constructor
 ·exact fun h x hx => goodT_zero (h x hx)
 ·intro h x hx
  unfold goodT
  rcases h x hx with rfl | h1
  ·rfl
  ·rw [h1,Bool.or_true]
theorem within_of {n : Nat} : ∀ t,over n t = true → ∀ m : Nat,within m t = true → depth t ≤ m:=by
 refine Un.Ty.ind fun k i al ih => ?_
 intro ho m h
 rw [within_eq] at h
 simp only [Bool.and_eq_true,decide_eq_true_eq,List.all_eq_true] at h
 obtain ⟨h1,h2⟩:=h
 rw [depth_mk]
 have : depths al ≤ m - 1:=depths_le.2 fun a ha => by
  have hoa : over n a = true:=by
   by_cases h9 : k = 9
   ·have h3:=(vin_var (vin_of_over _ _ ho) (show kd (Ty.mk k i al) = 9 from h9)).2.2
    have h4 : al = []:=h3
    rw [h4] at ha;cases ha
   ·rw [over_mk h9,Bool.and_eq_true,List.all_eq_true] at ho
    exact ho.2 a ha
  have h5:=h2 a ha
  rw [show (m : Int) - 1 = ((m - 1 : Nat) : Int) by omega] at h5
  exact ih a ha hoa (m - 1) h5
 omega
theorem element_iff {n : Nat} {t : Ty} : element n t = true ↔ over n t = true ∧ depth t ≤ 8:=by
 constructor
 ·intro h
  unfold element at h
  simp only [Bool.and_eq_true] at h
  exact ⟨h.2,within_of t h.2 8 h.1⟩
 ·exact fun h => element_of h.1 h.2
theorem wf_formed {s : List Ty} (hn : s.length ≤ 1000) (hs : ∀ t ∈ s,size t ≤ 90000) {wb : Bool} (hw : wf s = some wb) : wb = true ↔ FormedP s:=by
 unfold wf at hw
 by_cases h : (s.all fun t => unsolved t || element s.length t) = true
 ·rw [if_pos h] at hw
  have hel : ∀ t ∈ s,unsolved t = true ∨ element s.length t = true:=fun t ht => by
   have:=(List.all_eq_true.1 h) t ht
   simpa using this
  have hok : Okl s:=goodT_okl.1 fun x hx => by
   unfold goodT
   rcases hel x hx with h1 | h1
   ·rw [h1];rfl
   ·rw [(element_iff.1 h1).1,Bool.or_true]
  obtain ⟨d,hd,hdr⟩:=depthsOf_total s hn hs
  rw [hd] at hw
  simp only [Option.map_some,Option.some.injEq] at hw
  by_cases h2 : d.2 = true
  ·have hR:=hdr.1 h2
   obtain ⟨θ,hθ,hθr⟩:=holds_ex hok.vin hR
   have hz : ∀ i : Nat,i < s.length → ∃ z,Res s (var i) z ∧ θ i = z:=fun i hi => by
    obtain ⟨z,hz⟩:=Res.ex hok.vin hR (t:=var i) (vin_of_over _ _ (over_nat hi))
    exact ⟨z,hz,by rw [← ap_var θ i];exact hθr _ _ (vin_of_over _ _ (over_nat hi)) hz⟩
   have hDp : Dp s θ:=⟨hok.vin,hθ,fun e x hx hu => by
    have hel:=(List.getElem?_eq_some_iff.1 hx).1
    rcases hok x (List.mem_of_getElem? hx) with rfl | h3
    ·obtain ⟨z,h4,h5⟩:=hz e hel
     rw [h5,← Res.det (res_var hx) h4]
     rfl
    ·rw [over_uns h3] at hu;cases hu⟩
   have hany:=depthsOf_any hDp hn hs hd h2
   rw [← hw,h2,Bool.true_and,Bool.not_eq_true',← Bool.not_eq_true,hany]
   constructor
   ·intro h3
    refine ⟨hok,hR,fun i z hi hz' => ?_⟩
    obtain ⟨z',h4,h5⟩:=hz i hi
    have:=Res.det hz' h4
    subst this
    by_cases h6 : depth z ≤ 8
    ·exact h6
    ·exact absurd ⟨i,hi,by rw [h5];omega⟩ h3
   ·rintro h3 ⟨e,he,h4⟩
    obtain ⟨z,h5,h6⟩:=hz e he
    have:=h3.deep e z he h5
    rw [h6] at h4
    omega
  ·rw [← hw]
   constructor
   ·intro h3;simp only [Bool.and_eq_true] at h3;exact absurd h3.1 h2
   ·intro h3;exact absurd (hdr.2 h3.ranked) h2
 ·rw [if_neg h] at hw
  cases hw
  constructor
  ·intro h3;cases h3
  ·intro h3
   refine absurd ?_ h
   rw [List.all_eq_true]
   intro t ht
   rcases h3.okl t ht with rfl | h4
   ·rfl
   ·obtain ⟨i,hi⟩:=List.mem_iff_getElem?.1 ht
    have hil:=(List.getElem?_eq_some_iff.1 hi).1
    obtain ⟨z,hz⟩:=Res.ex h3.okl.vin h3.ranked (t:=t) (vin_of_over _ _ h4)
    have h5:=h3.deep i z hil (.sol (var i) i t z rfl rfl hi (over_uns h4) hz)
    obtain ⟨θ,_,hθr⟩:=holds_ex h3.okl.vin h3.ranked
    have h6:=depth_ap (θ:=θ) t (vin_of_over _ _ h4)
    rw [hθr t z (vin_of_over _ _ h4) hz] at h6
    have h7 : element s.length t = true:=element_iff.2 ⟨h4,by omega⟩
    rw [h7,Bool.or_true]
end Un
set_option maxRecDepth 100000 in
set_option maxHeartbeats 1600000 in
theorem formed_any (s : List Ty) (v : Value) (w : World) (hv : TysV w (fun _ => True) s v) (hl : s.length ≤ 900) (fb : Bool) (hfb : fb = true ↔ Un.FormedP s) :
  Calls Try.prog 42 #[v] w (LookP fb w):=by
 have HV:=hid hv
 cases hb : boundedB s with
 | false =>
  have HQ : Hid (fb = false):=hid (by
   cases h : fb with
   | false => rfl
   | true =>
    have h1:=hfb.1 h
    rw [Un.boundedB_iff.2 ⟨Un.goodT_okl.2 h1.okl,h1.ranked⟩] at hb
    cases hb)
  have HB:=hid (bounded_any s v w hv (by omega))
  rw [hb] at HB
  clear hv hfb hb
  go_enter Try.func42,Try.ntmps42
  go_wp2_with fail
  refine HB.out.mono ?_
  rintro e w2 ⟨rfl,hf2⟩
  have HF2:=hid hf2
  clear hf2
  go_wp2_with fail
  go_ret
  exact ⟨by rw [HQ.out];rfl,HF2.out⟩
 | true =>
  obtain ⟨hg,hR⟩:=Un.boundedB_iff.1 hb
  have hok:=Un.goodT_okl.1 hg
  obtain ⟨rk,hk,hlt⟩:=hR.small
  obtain ⟨ps,kp,rfl⟩:=hv.shape
  obtain ⟨n,hn⟩ : ∃ n,n = s.length:=⟨_,rfl⟩
  have hz : ∀ i : Nat,i < n → ∃ z,Res s (Un.var i) z:=fun i hi => Un.Res.ex hok.vin hR (t:=Un.var i) (Un.vin_of_over _ _ (Un.over_nat (by omega)))
  have HZ:=hid hz
  have HD : Hid (∀ (i : Nat) (z : Ty),i < n → Res s (Un.var i) z → ∀ wx,Fr [] w wx → Calls Try.prog 44 #[.slice ps n kp,.agg #[.int .i64 9,.int .i64 i,.slice none 0 0],.int .i64 ((n : Int) + 1),.int .i64 8] wx (NumP (deepN (depth z) 8) wx)):=hid (fun i z hi hz wx hf => by
   have h1:=deep_any (fun _ => True) s (.slice ps s.length kp) hok rk hk hz (Un.over_nat (by omega)) ((n : Int) + 1) 8 (fun u hu _ => by have:=hlt u hu;omega) (by omega) (by omega) (by omega) (by omega) [.int .i64 9,.int .i64 i,.slice none 0 0] wx (HV.out.keep0 hf) (TyV.mk (TysV.nil none 0))
   rw [← hn] at h1
   exact h1)
  have HFB : Hid (fb = true ↔ ∀ (i : Nat) (z : Ty),i < n → Res s (Un.var i) z → depth z ≤ 8):=hid (by
   rw [hfb]
   constructor
   ·exact fun h i z hi hz => h.deep i z (by omega) hz
   ·exact fun h => ⟨hok,hR,fun i z hi hz => h i z (by omega) hz⟩)
  have HB:=hid (bounded_any s _ w hv (by omega))
  rw [hb] at HB
  rw [← hn] at HB hl ⊢
  clear hv hfb hb hg hR hok hk hlt hz HV hn
  go_enter Try.func42,Try.ntmps42
  go_wp2_with fail
  refine HB.out.mono ?_
  rintro e w2 ⟨rfl,hf2⟩
  have HF2:=hid hf2
  clear hf2
  go_wp2_with fail
  go_loopw [3] (fun x wr => ∃ j : Nat,x = .int .i64 j ∧ j ≤ n ∧ Hid (∀ (i : Nat) (z : Ty),i < j → Res s (Un.var i) z → depth z ≤ 8) ∧ Hid (Fr [] w wr)) (fun x _ => n - (RowKit.intOf x).toNat)
  case atStart => exact ⟨0,rfl,Nat.zero_le _,hid (fun i z hi => by omega),HF2⟩
  case round =>
   obtain ⟨j,rfl,hj,HG,HFR⟩:=hrel
   by_cases hlt : j < n
   ·have hd2 : decide ((j : Int) < (n : Int)) = true:=by simp;omega
    have hd3 : decide (j < n) = true:=by simpa using hlt
    obtain ⟨z,hz⟩:=HZ.out j hlt
    have HCL:=hid (HD.out j z hlt hz wr HFR.out)
    have HZZ:=hid hz
    clear hz
    by_cases hle : depth z ≤ 8
    ·have hdn : deepN (depth z) 8 = depth z:=by unfold deepN;rw [if_pos (by omega)]
     rw [hdn] at HCL
     have hdp:=Un.depth_pos z
     obtain ⟨Y,hY⟩ : ∃ Y,Y = depth z:=⟨_,rfl⟩
     have HY:=hid hY
     rw [← hY] at HCL hle hdp
     have ez : ((Y : Int) == 0) = false:=by simp;omega
     clear hdn hY
     go_wp2_with fail
     refine HCL.out.mono ?_
     rintro e w3 ⟨rfl,hf3⟩
     have HF3:=hid (HFR.out.trans hf3)
     clear hf3
     go_wp2_with fail
     go_roundw
     case rel => exact ⟨j + 1,by go_num,by omega,hid (fun i z' hi hz' => by
      by_cases h1 : i < j
      ·exact HG.out i z' h1 hz'
      ·have h2 : i = j:=by omega
       subst h2
       rw [← Un.Res.det HZZ.out hz',← HY.out]
       exact hle),HF3⟩
     case measure => simp [RowKit.intOf];omega
    ·have hdn : deepN (depth z) 8 = 0:=by unfold deepN;rw [if_neg (by omega)]
     rw [hdn] at HCL
     have HQ : Hid (fb = false):=hid (by
      cases h : fb with
      | false => rfl
      | true => exact absurd (HFB.out.1 h j z hlt HZZ.out) hle)
     clear hdn
     go_wp2_with fail
     refine HCL.out.mono ?_
     rintro e w3 ⟨rfl,hf3⟩
     have HF3:=hid (HFR.out.trans hf3)
     clear hf3
     go_wp2_with fail
     go_ret
     exact ⟨by rw [HQ.out];rfl,HF3.out⟩
   ·have hd2 : decide ((j : Int) < (n : Int)) = false:=by simp;omega
    have hd3 : decide (j < n) = false:=by simpa using hlt
    obtain rfl : j = n:=by omega
    have HQ : Hid (fb = true):=hid (HFB.out.2 HG.out)
    go_wp2_with fail
    go_ret
    exact ⟨by rw [HQ.out];rfl,HFR.out⟩
end Go.Proofs.Ytcdlnhfgehhkcaa
