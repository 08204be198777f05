/- part of the proof -/
import Derived.Test.YtcdlnhfgehhkcaaQ33
import Derived.Test.YtcdlnhfgehhkcaaQ28
set_option linter.unusedVariables false
set_option linter.unusedSimpArgs false
set_option linter.unusedSectionVars false
namespace Go.Proofs.Ytcdlnhfgehhkcaa
open Go.RowKit Go.Lib
open Un (kd nm ar size sizes over occ)
def TyQ (B0 : Nat) (y : Ty) (w : World) (e : Ending) (w' : World) : Prop:=Fr [] w w' ∧ ∃ ds : List Value,e = .returned (.agg ds.toArray) ∧ TyV w' (fun k => k < B0 ∨ w.heap.size ≤ k) y ds
set_option maxRecDepth 100000 in
set_option maxHeartbeats 3200000 in
theorem rename_str (B0 : Nat) (L : List Ty) (v : Value) (t : Ty) (rs : List Ty) (cs : List Value) (w : World) (hB : B0 ≤ w.heap.size) (hv : TysV w (fun k => k < B0) L v) (h : TyV w (fun _ => True) t cs) (hl5 : (ar t).length ≤ 100000) (hrl : rs.length = (ar t).length)
  (ihl : ∀ (j : Nat) (x y : Ty),(ar t)[j]? = some x → rs[j]? = some y → ∀ (cs : List Value) (wx : World),Fr [] w wx → TyV wx (fun _ => True) x cs → Calls Try.prog 73 #[v,.agg cs.toArray] wx (TyQ B0 y wx)) (h9 : kd t ≠ 9) :
  Calls Try.prog 73 #[v,.agg cs.toArray] w (TyQ B0 (.mk (kd t) (nm t) rs) w):=by
 obtain ⟨T0,hT0⟩ : ∃ T0,T0 = w.heap.size:=⟨_,rfl⟩
 obtain ⟨p,c,rfl,ha⟩:=h.shape
 have hlm:=ha.len
 unfold maxLen at hlm
 have HB:=hid hB
 have HV:=hid hv
 have HT:=hid h
 obtain ⟨w1,hw1⟩ : ∃ w1,w1 = (w.alloc (.cells #[.int .i64 (kd t),.int .i64 (nm t),.slice p (ar t).length c] 24)).alloc (.cells #[.int .i64 0,.int .i64 0,.slice none 0 0] 24):=⟨_,rfl⟩
 have HF1 : Hid (Fr [] w w1):=hid (by rw [hw1];exact ((Fr.refl _ _).alloc _).alloc _)
 have HS1 : Hid (w1.heap.size = T0 + 2):=hid (by rw [hw1,hT0];simp)
 have HBT1 : Hid (Blk w1 T0 24 #[.int .i64 (kd t),.int .i64 (nm t),.slice p (ar t).length c]):=hid (by rw [hw1,hT0];exact (Blk.new _ _ _).alloc _)
 have HBR1 : Hid (Blk w1 (T0 + 1) 24 #[.int .i64 0,.int .i64 0,.slice none 0 0]):=hid (by rw [hw1,hT0];exact Blk.new_at (by simp))
 have HT0 : Hid (w.heap.size = T0):=hid hT0.symm
 have e1 : (kd t == 9) = false:=by simp [h9]
 have IH:=hid ihl
 have HRL:=hid hrl
 have HA:=hid ha
 have HVA : Hid (∀ wx,Fr [] w wx → Calls Try.prog 59 #[.agg #[.int .i64 (kd t),.int .i64 (nm t),.slice p (ar t).length c]] wx (LookP (kd t == 9) wx)):=hid (fun wx hf => rvariable_any t _ wx _ (HT.out.keep0 hf))
 obtain ⟨l,hl⟩ : ∃ l,l = ar t:=⟨_,rfl⟩
 rw [← hl] at IH HRL HA HVA HBT1 hw1 hlm hl5 ⊢
 clear hv h ha hB hrl ihl hl h9
 go_enter Try.func73,Try.ntmps73
 go_wp2_with fail
 rw [← hw1]
 clear hw1 hT0
 refine (HVA.out w1 HF1.out).mono ?_
 rw [e1]
 rintro e w2 ⟨rfl,hf2⟩
 have HF2:=hid (HF1.out.trans hf2)
 have HBT2:=hid (HBT1.out.keep hf2 (by simp))
 have HBR2:=hid (HBR1.out.keep hf2 (by simp))
 have x0 : w2.cell? ⟨T0,0,none⟩ = some (.int .i64 (kd t)):=HBT2.out.cell 0
 have x1 : w2.cell? ⟨T0,1,none⟩ = some (.int .i64 (nm t)):=HBT2.out.cell 1
 have xl : T0 < w2.heap.size:=HBT2.out.lt
 rw [HT0.out]
 clear hf2 e1
 go_wp2_with fail
 obtain ⟨O0,hO0⟩ : ∃ O0,O0 = w2.heap.size:=⟨_,rfl⟩
 rw [← hO0]
 obtain ⟨w3,hw3⟩ : ∃ w3,w3 = w2.alloc (.cells #[.int .i64 (kd t),.int .i64 (nm t),.slice none 0 0] 24):=⟨_,rfl⟩
 rw [← hw3]
 have hf3 : Fr [] w2 w3:=by rw [hw3];exact (Fr.refl _ _).alloc _
 have HBO3 : Hid (Blk w3 O0 24 #[.int .i64 (kd t),.int .i64 (nm t),.slice none 0 0]):=hid (by rw [hw3,hO0];exact Blk.new _ _ _)
 have HO0 : Hid (T0 + 2 ≤ O0):=hid (by rw [hO0];have:=HBR2.out.lt;omega)
 have HBT3:=hid (HBT2.out.keep hf3 (by simp))
 have HBR3:=hid (HBR2.out.keep hf3 (by simp))
 have HF3:=hid (HF2.out.trans hf3)
 clear hf3 HBT2 HBR2 HF2 hw3 hO0 x0 x1 xl
 obtain ⟨i0,hi0,hz0,hz1,hz2⟩:=info_parts info_ty
 have HI0:=hid hi0
 clear hi0
 go_loopw [6] (fun x wr => ∃ (j : Nat) (pv : Option Addr) (cv : Nat),x = .int .i64 j ∧ j ≤ l.length ∧ Hid (Fr [] w wr) ∧ Hid (Blk wr T0 24 #[.int .i64 (kd t),.int .i64 (nm t),.slice p l.length c]) ∧ Hid (Blk wr (T0 + 1) 24 #[.int .i64 0,.int .i64 0,.slice none 0 0]) ∧ Hid (Blk wr (O0) 24 #[.int .i64 (kd t),.int .i64 (nm t),.slice pv j cv]) ∧ Hid (OwnL wr (fun k => k < B0 ∨ O0 + 1 ≤ k) (O0 + 1) 24 3 j (rowsQ qTy (rs.take j)) (.slice pv j cv))) (fun x _ => l.length - (RowKit.intOf x).toNat)
 case atStart => exact ⟨0,none,0,rfl,Nat.zero_le _,HF3,HBT3,HBR3,HBO3,hid (by rw [List.take_zero,rowsQ];exact OwnL.nil _ _ _ _ _)⟩
 case round =>
  obtain ⟨j,pv,cv,rfl,hj,HFR,HBT,HBR,HBO,HO⟩:=hrel
  have b2 : wr.cell? ⟨T0,2,none⟩ = some (.slice p l.length c):=HBT.out.cell 2
  have bl : T0 < wr.heap.size:=HBT.out.lt
  by_cases hlt : j < l.length
  ·have hd2 : decide ((j : Int) < (l.length : Int)) = true:=by simp;omega
   have hd3 : decide (j < l.length) = true:=by simpa using hlt
   obtain ⟨b,o,rfl,hat⟩ : ∃ b o,p = some ⟨b,o,none⟩ ∧ TysAt w (fun _ => True) l b o:=by
    rcases HA.out.cases with ⟨h,_⟩ | ⟨_,b,o,cap,heq,_,_,hat⟩
    ·rw [h] at hlt;simp at hlt
    ·simp only [Value.slice.injEq] at heq
     exact ⟨b,o,heq.1,hat⟩
   obtain ⟨wd,hwd⟩ : ∃ wd,wd = wr.drew:=⟨_,rfl⟩
   have HFD : Hid (Fr [] w wd):=hid (by rw [hwd];exact HFR.out.drew)
   have HFD1 : Hid (Fr [] wr wd):=hid (by rw [hwd];exact (Fr.refl _ _).drew)
   obtain ⟨p1,c1,k1,hb,g0,g1,g2⟩:=hat.el HFR.out (by simp) (List.getElem?_eq_getElem hlt)
   obtain ⟨x,hx⟩ : ∃ x,x = l[j]:=⟨_,rfl⟩
   have HLX : Hid (l[j]? = some x):=hid (by rw [hx];exact List.getElem?_eq_getElem hlt)
   rw [← hx] at g0 g1 g2 k1
   have K1:=hid k1
   obtain ⟨y,HY⟩ : ∃ y,Hid (rs[j]? = some y):=⟨_,hid (List.getElem?_eq_getElem (by rw [HRL.out];exact hlt))⟩
   have HTK : Hid (rs.take (j + 1) = rs.take j ++ [y]):=hid (by rw [List.take_add_one,HY.out];rfl)
   have o2 : wr.cell? ⟨O0,2,none⟩ = some (.slice pv j cv):=HBO.out.cell 2
   have ol : O0 < wr.heap.size:=HBO.out.lt
   have odl : O0 < wd.heap.size:=(HBO.out.keep HFD1.out (by simp)).lt
   have HCE : Hid (∀ wx,Fr [] wd wx → wx.cell? ⟨O0,2,none⟩ = some (.slice pv j cv) ∧ wx.frozen? ⟨O0,2,none⟩ = false ∧ O0 < wx.heap.size):=hid (fun wx hf => ⟨by rw [hf.cell odl (by simp)];exact (HBO.out.keep HFD1.out (by simp)).cell 2,by rw [hf.frozen odl (by simp)];exact (HBO.out.keep HFD1.out (by simp)).frozen 2,Nat.lt_of_lt_of_le odl hf.size⟩)
   have HCL : Hid (Calls Try.prog 73 #[v,.agg #[.int .i64 (kd x),.int .i64 (nm x),.slice p1 (ar x).length c1]] wd (TyQ B0 y wd)):=IH.out j x y HLX.out HY.out _ wd HFD.out (K1.out.keep0 HFD1.out)
   have HOD:=hid (HO.out.keep HFD1.out (by simp))
   have HZD : Hid (O0 + 1 ≤ wd.heap.size):=hid (by omega)
   clear k1 hat hx odl
   go_wp2_with fail
   go_region_law (first | (go_simp;go_at_call 73;(try rw [← hwd]);(with_reducible refine HCL.out.mono ?_);rintro e w5 ⟨hf5,ds,rfl,hty⟩;obtain ⟨p5,c5,rfl,_⟩:=hty.shape;have HF5:=hid hf5;obtain ⟨n1,n2,n3⟩:=HCE.out w5 hf5;have hrow : InN w5 (fun k => (k < B0 ∨ O0 + 1 ≤ k) ∧ (Value.slice pv j cv).ownBlock ≠ some k) (qTy y) [.int .i64 (kd y),.int .i64 (nm y),.slice p5 (ar y).length c5]:=InN.weak hty (fun k _ hk => ⟨by (have:=HZD.out);(rcases hk with hk | hk <;> omega),fun e => by (have:=HOD.out.own k e);(have:=HB.out);(have:=HT0.out);(have:=HO0.out);(rcases hk with hk | hk <;> omega)⟩);have HROW:=hid hrow;obtain ⟨r1,r2,r3,r4⟩:=ownl_ready2 (HOD.out.keep hf5 (by simp)) (by (have:=hf5.size);(have:=HZD.out);omega) hrow 24;have R1:=hid r1;have R2:=hid r2;have R3:=hid r3;have R4:=hid r4;clear r1 r2 r3 r4 hrow hty hf5) | (refine step_append_ownl _ (by rfl) _ _ 22 (by rfl) (fun k => k < B0 ∨ O0 + 1 ≤ k) (O0 + 1) 24 i0 _ 3 40 Try.underlying22 HI0.out hz0 hz1 hz2 rfl (by decide) (.slice pv j cv) j 1 (rowsQ qTy (rs.take j)) (qTy y) (by rfl) R1.out ⟨w5.heap.size,0,none⟩ 1 [.int .i64 (kd y),.int .i64 (nm y),.slice p5 (ar y).length c5] (by rfl) rfl R2.out R3.out (by omega) (by decide) R4.out ?_;intro p6 c6 w6 hL6 hg6 hv6;have HL6:=hid hL6;have HG6 : Hid (Fr (Value.slice pv j cv).ownBlock.toList w5 w6):=hid (((Fr.refl _ w5).alloc (.cells #[.int .i64 (kd y),.int .i64 (nm y),.slice p5 (ar y).length c5] 24)).grown hg6 (fun k hk => .inl (by simp [hk])));have m1 : w6.cell? ⟨O0,2,none⟩ = some (.slice pv j cv):=(HG6.out.cell n3 (fun hx => by (have:=(HOD.out.own _ (by simpa using hx)).1);omega) 2).trans n1;have m2 : w6.frozen? ⟨O0,2,none⟩ = false:=(HG6.out.frozen n3 (fun hx => by (have:=(HOD.out.own _ (by simpa using hx)).1);omega) 2).trans n2;have m3 : O0 < w6.heap.size:=Nat.lt_of_lt_of_le n3 HG6.out.size;clear hL6 hg6 hv6))
   all_goals
    have HF56 : Hid (Fr (Value.slice pv j cv).ownBlock.toList wd w6):=hid ((HF5.out.nil _).trans HG6.out)
    have hown : ∀ k,k ∈ (Value.slice pv j cv).ownBlock.toList → O0 + 1 ≤ k:=fun k hk => (HOD.out.own k (by simpa using hk)).1
    have HF6 : Hid (Fr [] w (w6.setCell ⟨O0,2,none⟩ (.slice p6 (j + 1) c6))):=hid (((HFD.out.nil _).trans HF56.out).sub (Y:=[]) (fun k hk => .inr (by have:=hown k hk;have:=HT0.out;have:=HO0.out;omega)) |>.setCell (.inr (by have:=HT0.out;have:=HO0.out;show w.heap.size ≤ O0;omega)) _)
    have HBT6 : Hid (Blk (w6.setCell ⟨O0,2,none⟩ (.slice p6 (j + 1) c6)) T0 24 #[.int .i64 (kd t),.int .i64 (nm t),.slice (some ⟨b,o,none⟩) l.length c]):=hid ((((HBT.out.keep HFD1.out (by simp)).keep HF56.out (fun hx => by have:=hown _ hx;have:=HO0.out;omega))).other (by have:=HO0.out;show T0 ≠ O0;omega) _)
    have HBR6 : Hid (Blk (w6.setCell ⟨O0,2,none⟩ (.slice p6 (j + 1) c6)) (T0 + 1) 24 #[.int .i64 0,.int .i64 0,.slice none 0 0]):=hid ((((HBR.out.keep HFD1.out (by simp)).keep HF56.out (fun hx => by have:=hown _ hx;have:=HO0.out;omega))).other (by have:=HO0.out;show T0 + 1 ≠ O0;omega) _)
    have HBO6 : Hid (Blk (w6.setCell ⟨O0,2,none⟩ (.slice p6 (j + 1) c6)) (O0) 24 #[.int .i64 (kd t),.int .i64 (nm t),.slice p6 (j + 1) c6]):=hid ((((HBO.out.keep HFD1.out (by simp)).keep HF56.out (fun hx => by have:=hown _ hx;have:=HO0.out;omega))).set 2 _)
    have HO6 : Hid (OwnL (w6.setCell ⟨O0,2,none⟩ (.slice p6 (j + 1) c6)) (fun k => k < B0 ∨ O0 + 1 ≤ k) (O0 + 1) 24 3 (j + 1) (rowsQ qTy (rs.take (j + 1))) (.slice p6 (j + 1) c6)):=hid (by
     rw [HTK.out,rowsQ_snoc]
     exact HL6.out.keep (X:=[O0]) ((Fr.refl [O0] _).setCell (.inl (by simp)) _) (fun k hk => by rw [List.mem_singleton] at hk;subst hk;have:=HB.out;have:=HT0.out;have:=HO0.out;exact ⟨by omega,by omega⟩))
    clear hown m1 m2 m3 n1 n2 n3 o2 ol g0 g1 g2
    generalize w6.setCell ⟨O0,2,none⟩ (.slice p6 (j + 1) c6) = w7 at HF6 HBT6 HBR6 HBO6 HO6
    go_wp2_with fail
    go_roundw
    case rel => exact ⟨j + 1,p6,c6,by go_num,by omega,HF6,HBT6,HBR6,HBO6,HO6⟩
    case measure => simp [RowKit.intOf];omega
  ·have hd2 : decide ((j : Int) < (l.length : Int)) = false:=by simp;omega
   have hd3 : decide (j < l.length) = false:=by simpa using hlt
   obtain rfl : j = l.length:=by omega
   have htk : rs.take l.length = rs:=List.take_of_length_le (by rw [HRL.out];exact Nat.le_refl _)
   have o0 : wr.cell? ⟨O0,0,none⟩ = some (.int .i64 (kd t)):=HBO.out.cell 0
   have o1 : wr.cell? ⟨O0,1,none⟩ = some (.int .i64 (nm t)):=HBO.out.cell 1
   have o2 : wr.cell? ⟨O0,2,none⟩ = some (.slice pv l.length cv):=HBO.out.cell 2
   have ol : O0 < wr.heap.size:=HBO.out.lt
   have u0 : wr.cell? ⟨T0 + 1,0,none⟩ = some (.int .i64 0):=HBR.out.cell 0
   have u1 : wr.cell? ⟨T0 + 1,1,none⟩ = some (.int .i64 0):=HBR.out.cell 1
   have u2 : wr.cell? ⟨T0 + 1,2,none⟩ = some (.slice none 0 0):=HBR.out.cell 2
   have ul : T0 + 1 < wr.heap.size:=HBR.out.lt
   have f0:=HBR.out.frozen 0
   have f1:=HBR.out.frozen 1
   have f2:=HBR.out.frozen 2
   have hTV : TyV wr (fun k => k < B0 ∨ O0 + 1 ≤ k) (.mk (kd t) (nm t) rs) [.int .i64 (kd t),.int .i64 (nm t),.slice pv l.length cv]:=TyV.mk (by
    have h1:=HO.out
    rw [htk] at h1
    unfold TysV
    rw [HRL.out]
    exact h1.inn (fun k _ h => by omega) (fun k h => by omega))
   have HTV:=hid hTV
   clear htk hTV
   go_wp2_with fail
   have hbx:=HBR.out.set3 (.int .i64 (kd t)) (.int .i64 (nm t)) (.slice pv l.length cv)
   have x0:=hbx.cell 0
   have x1:=hbx.cell 1
   have x2:=hbx.cell 2
   have hfx : Fr [] w (((wr.setCell ⟨T0 + 1,0,none⟩ (.int .i64 (kd t))).setCell ⟨T0 + 1,1,none⟩ (.int .i64 (nm t))).setCell ⟨T0 + 1,2,none⟩ (.slice pv l.length cv)):=HFR.out.set3 (.inr (by have:=HT0.out;omega)) _ _ _
   refine bodyPost_ret (v:=.agg #[.int .i64 (kd t),.int .i64 (nm t),.slice pv l.length cv]) (by simp [results,Try.results73,go_sem,x0,x1,x2]) rfl ⟨hfx,_,rfl,?_⟩
   have HBB:=HB.out
   have HTT:=HT0.out
   have HOO:=HO0.out
   exact InN.mono (fun k hk hl => ⟨by rcases hk with hk | hk <;> omega,by simpa [World.setCell] using hl,set3_block _ _ _ (by rcases hk with hk | hk <;> omega)⟩) HTV.out
set_option maxRecDepth 100000 in
set_option maxHeartbeats 12800000 in
theorem rapply_how (B0 : Nat) (L : List Ty) (v : Value) (t : Ty) (rs : List Ty) (cs : List Value) (w : World) (hB : B0 ≤ w.heap.size) (hv : TysV w (fun k => k < B0) L v) (h : TyV w (fun _ => True) t cs) (hl5 : (ar t).length ≤ 100000) (hrl : rs.length = (ar t).length)
  (ihl : ∀ (j : Nat) (x y : Ty),(ar t)[j]? = some x → rs[j]? = some y → ∀ (cs : List Value) (wx : World),Fr [] w wx → TyV wx (fun _ => True) x cs → Calls Try.prog 56 #[v,.agg cs.toArray] wx (TyQ B0 y wx)) (hc : kd t ≠ 9 ∨ (kd t = 9 ∧ ∃ (n : Nat) (z : Ty),nm t = n ∧ L[n]? = some z ∧ kd z = 0)) :
  Calls Try.prog 56 #[v,.agg cs.toArray] w (TyQ B0 (.mk (kd t) (nm t) rs) w):=by
 obtain ⟨T0,hT0⟩ : ∃ T0,T0 = w.heap.size:=⟨_,rfl⟩
 obtain ⟨p,c,rfl,ha⟩:=h.shape
 have hlm:=ha.len
 unfold maxLen at hlm
 have HB:=hid hB
 have HV:=hid hv
 have HT:=hid h
 obtain ⟨w1,hw1⟩ : ∃ w1,w1 = (w.alloc (.cells #[.int .i64 (kd t),.int .i64 (nm t),.slice p (ar t).length c] 24)).alloc (.cells #[.int .i64 0,.int .i64 0,.slice none 0 0] 24):=⟨_,rfl⟩
 have HF1 : Hid (Fr [] w w1):=hid (by rw [hw1];exact ((Fr.refl _ _).alloc _).alloc _)
 have HS1 : Hid (w1.heap.size = T0 + 2):=hid (by rw [hw1,hT0];simp)
 have HBT1 : Hid (Blk w1 T0 24 #[.int .i64 (kd t),.int .i64 (nm t),.slice p (ar t).length c]):=hid (by rw [hw1,hT0];exact (Blk.new _ _ _).alloc _)
 have HBR1 : Hid (Blk w1 (T0 + 1) 24 #[.int .i64 0,.int .i64 0,.slice none 0 0]):=hid (by rw [hw1,hT0];exact Blk.new_at (by simp))
 have HT0 : Hid (w.heap.size = T0):=hid hT0.symm
 obtain ⟨ps,kp,rfl⟩:=HV.out.shape
 have IH:=hid ihl
 have HRL:=hid hrl
 have HA:=hid ha
 have HVA : Hid (∀ wx,Fr [] w wx → Calls Try.prog 59 #[.agg #[.int .i64 (kd t),.int .i64 (nm t),.slice p (ar t).length c]] wx (LookP (kd t == 9) wx)):=hid (fun wx hf => rvariable_any t _ wx _ (HT.out.keep0 hf))
 obtain ⟨l,hl⟩ : ∃ l,l = ar t:=⟨_,rfl⟩
 rw [← hl] at IH HRL HA HVA HBT1 hw1 hlm hl5 ⊢
 clear hv h ha hB hrl ihl hl
 rcases hc with h9 | ⟨h9,n,z,hn,hz,hzk⟩
 case' inl =>
  have e1 : (kd t == 9) = false:=by simp [h9]
  clear h9
  go_enter Try.func56,Try.ntmps56
  go_wp2_with fail
  rw [← hw1]
  clear hw1 hT0
  refine (HVA.out w1 HF1.out).mono ?_
  rw [e1]
  rintro e w2 ⟨rfl,hf2⟩
  have HF2:=hid (HF1.out.trans hf2)
  have HBT2:=hid (HBT1.out.keep hf2 (by simp))
  have HBR2:=hid (HBR1.out.keep hf2 (by simp))
  have x0 : w2.cell? ⟨T0,0,none⟩ = some (.int .i64 (kd t)):=HBT2.out.cell 0
  have x1 : w2.cell? ⟨T0,1,none⟩ = some (.int .i64 (nm t)):=HBT2.out.cell 1
  have xl : T0 < w2.heap.size:=HBT2.out.lt
  rw [HT0.out]
  clear hf2 e1
  go_wp2_with fail
 case' inr =>
  have e1 : (kd t == 9) = true:=by simp [h9]
  obtain ⟨bs,os,rfl,hat⟩:=TysV.elem HV.out hz
  have hnl : n < L.length:=(List.getElem?_eq_some_iff.1 hz).1
  have e4 : decide (n < L.length) = true:=by simpa using hnl
  have e5 : decide ((n : Int) < (L.length : Int)) = true:=by simp;omega
  have e6 : (n : Int) < (L.length : Int):=by omega
  have HN:=hid hn
  have HAT:=hid hat
  have HZ:=hid hz
  have HZK:=hid hzk
  have HLL:=hid HV.out.len
  clear h9 hn hat hz hzk
  go_enter Try.func56,Try.ntmps56
  go_wp2_with fail
  rw [← hw1]
  clear hw1 hT0
  refine (HVA.out w1 HF1.out).mono ?_
  rw [e1]
  rintro e w2 ⟨rfl,hf2⟩
  have HF2:=hid (HF1.out.trans hf2)
  have HBT2:=hid (HBT1.out.keep hf2 (by simp))
  have HBR2:=hid (HBR1.out.keep hf2 (by simp))
  have x0 : w2.cell? ⟨T0,0,none⟩ = some (.int .i64 (kd t)):=HBT2.out.cell 0
  have x1 : w2.cell? ⟨T0,1,none⟩ = some (.int .i64 (nm t)):=HBT2.out.cell 1
  have xl : T0 < w2.heap.size:=HBT2.out.lt
  rw [HT0.out]
  clear hf2 e1
  obtain ⟨p9,c9,k9,hb9,g90,g91,g92⟩:=HAT.out.el HF2.out (by simp) HZ.out
  rw [HZK.out] at g90
  have x1' : w2.cell? ⟨T0,1,none⟩ = some (.int .i64 n):=by rw [← HN.out];exact x1
  clear k9 g91 g92
  rw [HN.out] at x1 ⊢
  go_wp2_with fail
  rw [← HN.out]
 all_goals
  obtain ⟨O0,hO0⟩ : ∃ O0,O0 = w2.heap.size:=⟨_,rfl⟩
  rw [← hO0]
  obtain ⟨w3,hw3⟩ : ∃ w3,w3 = w2.alloc (.cells #[.int .i64 (kd t),.int .i64 (nm t),.slice none 0 0] 24):=⟨_,rfl⟩
  rw [← hw3]
  have hf3 : Fr [] w2 w3:=by rw [hw3];exact (Fr.refl _ _).alloc _
  have HBO3 : Hid (Blk w3 O0 24 #[.int .i64 (kd t),.int .i64 (nm t),.slice none 0 0]):=hid (by rw [hw3,hO0];exact Blk.new _ _ _)
  have HO0 : Hid (T0 + 2 ≤ O0):=hid (by rw [hO0];have:=HBR2.out.lt;omega)
  have HBT3:=hid (HBT2.out.keep hf3 (by simp))
  have HBR3:=hid (HBR2.out.keep hf3 (by simp))
  have HF3:=hid (HF2.out.trans hf3)
  clear hf3 HBT2 HBR2 HF2 hw3 hO0 x0 x1 xl
  obtain ⟨i0,hi0,hz0,hz1,hz2⟩:=info_parts info_ty
  have HI0:=hid hi0
  clear hi0
  go_loopw [6] (fun x wr => ∃ (j : Nat) (pv : Option Addr) (cv : Nat),x = .int .i64 j ∧ j ≤ l.length ∧ Hid (Fr [] w wr) ∧ Hid (Blk wr T0 24 #[.int .i64 (kd t),.int .i64 (nm t),.slice p l.length c]) ∧ Hid (Blk wr (T0 + 1) 24 #[.int .i64 0,.int .i64 0,.slice none 0 0]) ∧ Hid (Blk wr (O0) 24 #[.int .i64 (kd t),.int .i64 (nm t),.slice pv j cv]) ∧ Hid (OwnL wr (fun k => k < B0 ∨ O0 + 1 ≤ k) (O0 + 1) 24 3 j (rowsQ qTy (rs.take j)) (.slice pv j cv))) (fun x _ => l.length - (RowKit.intOf x).toNat)
  case atStart => exact ⟨0,none,0,rfl,Nat.zero_le _,HF3,HBT3,HBR3,HBO3,hid (by rw [List.take_zero,rowsQ];exact OwnL.nil _ _ _ _ _)⟩
  case round =>
   obtain ⟨j,pv,cv,rfl,hj,HFR,HBT,HBR,HBO,HO⟩:=hrel
   have b2 : wr.cell? ⟨T0,2,none⟩ = some (.slice p l.length c):=HBT.out.cell 2
   have bl : T0 < wr.heap.size:=HBT.out.lt
   by_cases hlt : j < l.length
   ·have hd2 : decide ((j : Int) < (l.length : Int)) = true:=by simp;omega
    have hd3 : decide (j < l.length) = true:=by simpa using hlt
    obtain ⟨b,o,rfl,hat⟩ : ∃ b o,p = some ⟨b,o,none⟩ ∧ TysAt w (fun _ => True) l b o:=by
     rcases HA.out.cases with ⟨h,_⟩ | ⟨_,b,o,cap,heq,_,_,hat⟩
     ·rw [h] at hlt;simp at hlt
     ·simp only [Value.slice.injEq] at heq
      exact ⟨b,o,heq.1,hat⟩
    obtain ⟨wd,hwd⟩ : ∃ wd,wd = wr.drew:=⟨_,rfl⟩
    have HFD : Hid (Fr [] w wd):=hid (by rw [hwd];exact HFR.out.drew)
    have HFD1 : Hid (Fr [] wr wd):=hid (by rw [hwd];exact (Fr.refl _ _).drew)
    obtain ⟨p1,c1,k1,hb,g0,g1,g2⟩:=hat.el HFR.out (by simp) (List.getElem?_eq_getElem hlt)
    obtain ⟨x,hx⟩ : ∃ x,x = l[j]:=⟨_,rfl⟩
    have HLX : Hid (l[j]? = some x):=hid (by rw [hx];exact List.getElem?_eq_getElem hlt)
    rw [← hx] at g0 g1 g2 k1
    have K1:=hid k1
    obtain ⟨y,HY⟩ : ∃ y,Hid (rs[j]? = some y):=⟨_,hid (List.getElem?_eq_getElem (by rw [HRL.out];exact hlt))⟩
    have HTK : Hid (rs.take (j + 1) = rs.take j ++ [y]):=hid (by rw [List.take_add_one,HY.out];rfl)
    have o2 : wr.cell? ⟨O0,2,none⟩ = some (.slice pv j cv):=HBO.out.cell 2
    have ol : O0 < wr.heap.size:=HBO.out.lt
    have odl : O0 < wd.heap.size:=(HBO.out.keep HFD1.out (by simp)).lt
    have HCE : Hid (∀ wx,Fr [] wd wx → wx.cell? ⟨O0,2,none⟩ = some (.slice pv j cv) ∧ wx.frozen? ⟨O0,2,none⟩ = false ∧ O0 < wx.heap.size):=hid (fun wx hf => ⟨by rw [hf.cell odl (by simp)];exact (HBO.out.keep HFD1.out (by simp)).cell 2,by rw [hf.frozen odl (by simp)];exact (HBO.out.keep HFD1.out (by simp)).frozen 2,Nat.lt_of_lt_of_le odl hf.size⟩)
    have HCL : Hid (Calls Try.prog 56 #[_,.agg #[.int .i64 (kd x),.int .i64 (nm x),.slice p1 (ar x).length c1]] wd (TyQ B0 y wd)):=IH.out j x y HLX.out HY.out _ wd HFD.out (K1.out.keep0 HFD1.out)
    have HOD:=hid (HO.out.keep HFD1.out (by simp))
    have HZD : Hid (O0 + 1 ≤ wd.heap.size):=hid (by omega)
    clear k1 hat hx odl
    go_wp2_with fail
    go_region_law (first | (go_simp;go_at_call 56;(try rw [← hwd]);(with_reducible refine HCL.out.mono ?_);rintro e w5 ⟨hf5,ds,rfl,hty⟩;obtain ⟨p5,c5,rfl,_⟩:=hty.shape;have HF5:=hid hf5;obtain ⟨n1,n2,n3⟩:=HCE.out w5 hf5;have hrow : InN w5 (fun k => (k < B0 ∨ O0 + 1 ≤ k) ∧ (Value.slice pv j cv).ownBlock ≠ some k) (qTy y) [.int .i64 (kd y),.int .i64 (nm y),.slice p5 (ar y).length c5]:=InN.weak hty (fun k _ hk => ⟨by (have:=HZD.out);(rcases hk with hk | hk <;> omega),fun e => by (have:=HOD.out.own k e);(have:=HB.out);(have:=HT0.out);(have:=HO0.out);(rcases hk with hk | hk <;> omega)⟩);have HROW:=hid hrow;obtain ⟨r1,r2,r3,r4⟩:=ownl_ready2 (HOD.out.keep hf5 (by simp)) (by (have:=hf5.size);(have:=HZD.out);omega) hrow 24;have R1:=hid r1;have R2:=hid r2;have R3:=hid r3;have R4:=hid r4;clear r1 r2 r3 r4 hrow hty hf5) | (refine step_append_ownl _ (by rfl) _ _ 22 (by rfl) (fun k => k < B0 ∨ O0 + 1 ≤ k) (O0 + 1) 24 i0 _ 3 40 Try.underlying22 HI0.out hz0 hz1 hz2 rfl (by decide) (.slice pv j cv) j 1 (rowsQ qTy (rs.take j)) (qTy y) (by rfl) R1.out ⟨w5.heap.size,0,none⟩ 1 [.int .i64 (kd y),.int .i64 (nm y),.slice p5 (ar y).length c5] (by rfl) rfl R2.out R3.out (by omega) (by decide) R4.out ?_;intro p6 c6 w6 hL6 hg6 hv6;have HL6:=hid hL6;have HG6 : Hid (Fr (Value.slice pv j cv).ownBlock.toList w5 w6):=hid (((Fr.refl _ w5).alloc (.cells #[.int .i64 (kd y),.int .i64 (nm y),.slice p5 (ar y).length c5] 24)).grown hg6 (fun k hk => .inl (by simp [hk])));have m1 : w6.cell? ⟨O0,2,none⟩ = some (.slice pv j cv):=(HG6.out.cell n3 (fun hx => by (have:=(HOD.out.own _ (by simpa using hx)).1);omega) 2).trans n1;have m2 : w6.frozen? ⟨O0,2,none⟩ = false:=(HG6.out.frozen n3 (fun hx => by (have:=(HOD.out.own _ (by simpa using hx)).1);omega) 2).trans n2;have m3 : O0 < w6.heap.size:=Nat.lt_of_lt_of_le n3 HG6.out.size;clear hL6 hg6 hv6))
    all_goals
     have HF56 : Hid (Fr (Value.slice pv j cv).ownBlock.toList wd w6):=hid ((HF5.out.nil _).trans HG6.out)
     have hown : ∀ k,k ∈ (Value.slice pv j cv).ownBlock.toList → O0 + 1 ≤ k:=fun k hk => (HOD.out.own k (by simpa using hk)).1
     have HF6 : Hid (Fr [] w (w6.setCell ⟨O0,2,none⟩ (.slice p6 (j + 1) c6))):=hid (((HFD.out.nil _).trans HF56.out).sub (Y:=[]) (fun k hk => .inr (by have:=hown k hk;have:=HT0.out;have:=HO0.out;omega)) |>.setCell (.inr (by have:=HT0.out;have:=HO0.out;show w.heap.size ≤ O0;omega)) _)
     have HBT6 : Hid (Blk (w6.setCell ⟨O0,2,none⟩ (.slice p6 (j + 1) c6)) T0 24 #[.int .i64 (kd t),.int .i64 (nm t),.slice (some ⟨b,o,none⟩) l.length c]):=hid ((((HBT.out.keep HFD1.out (by simp)).keep HF56.out (fun hx => by have:=hown _ hx;have:=HO0.out;omega))).other (by have:=HO0.out;show T0 ≠ O0;omega) _)
     have HBR6 : Hid (Blk (w6.setCell ⟨O0,2,none⟩ (.slice p6 (j + 1) c6)) (T0 + 1) 24 #[.int .i64 0,.int .i64 0,.slice none 0 0]):=hid ((((HBR.out.keep HFD1.out (by simp)).keep HF56.out (fun hx => by have:=hown _ hx;have:=HO0.out;omega))).other (by have:=HO0.out;show T0 + 1 ≠ O0;omega) _)
     have HBO6 : Hid (Blk (w6.setCell ⟨O0,2,none⟩ (.slice p6 (j + 1) c6)) (O0) 24 #[.int .i64 (kd t),.int .i64 (nm t),.slice p6 (j + 1) c6]):=hid ((((HBO.out.keep HFD1.out (by simp)).keep HF56.out (fun hx => by have:=hown _ hx;have:=HO0.out;omega))).set 2 _)
     have HO6 : Hid (OwnL (w6.setCell ⟨O0,2,none⟩ (.slice p6 (j + 1) c6)) (fun k => k < B0 ∨ O0 + 1 ≤ k) (O0 + 1) 24 3 (j + 1) (rowsQ qTy (rs.take (j + 1))) (.slice p6 (j + 1) c6)):=hid (by
      rw [HTK.out,rowsQ_snoc]
      exact HL6.out.keep (X:=[O0]) ((Fr.refl [O0] _).setCell (.inl (by simp)) _) (fun k hk => by rw [List.mem_singleton] at hk;subst hk;have:=HB.out;have:=HT0.out;have:=HO0.out;exact ⟨by omega,by omega⟩))
     clear hown m1 m2 m3 n1 n2 n3 o2 ol g0 g1 g2
     generalize w6.setCell ⟨O0,2,none⟩ (.slice p6 (j + 1) c6) = w7 at HF6 HBT6 HBR6 HBO6 HO6
     go_wp2_with fail
     go_roundw
     case rel => exact ⟨j + 1,p6,c6,by go_num,by omega,HF6,HBT6,HBR6,HBO6,HO6⟩
     case measure => simp [RowKit.intOf];omega
   ·have hd2 : decide ((j : Int) < (l.length : Int)) = false:=by simp;omega
    have hd3 : decide (j < l.length) = false:=by simpa using hlt
    obtain rfl : j = l.length:=by omega
    have htk : rs.take l.length = rs:=List.take_of_length_le (by rw [HRL.out];exact Nat.le_refl _)
    have o0 : wr.cell? ⟨O0,0,none⟩ = some (.int .i64 (kd t)):=HBO.out.cell 0
    have o1 : wr.cell? ⟨O0,1,none⟩ = some (.int .i64 (nm t)):=HBO.out.cell 1
    have o2 : wr.cell? ⟨O0,2,none⟩ = some (.slice pv l.length cv):=HBO.out.cell 2
    have ol : O0 < wr.heap.size:=HBO.out.lt
    have u0 : wr.cell? ⟨T0 + 1,0,none⟩ = some (.int .i64 0):=HBR.out.cell 0
    have u1 : wr.cell? ⟨T0 + 1,1,none⟩ = some (.int .i64 0):=HBR.out.cell 1
    have u2 : wr.cell? ⟨T0 + 1,2,none⟩ = some (.slice none 0 0):=HBR.out.cell 2
    have ul : T0 + 1 < wr.heap.size:=HBR.out.lt
    have f0:=HBR.out.frozen 0
    have f1:=HBR.out.frozen 1
    have f2:=HBR.out.frozen 2
    have hTV : TyV wr (fun k => k < B0 ∨ O0 + 1 ≤ k) (.mk (kd t) (nm t) rs) [.int .i64 (kd t),.int .i64 (nm t),.slice pv l.length cv]:=TyV.mk (by
     have h1:=HO.out
     rw [htk] at h1
     unfold TysV
     rw [HRL.out]
     exact h1.inn (fun k _ h => by omega) (fun k h => by omega))
    have HTV:=hid hTV
    clear htk hTV
    go_wp2_with fail
    have hbx:=HBR.out.set3 (.int .i64 (kd t)) (.int .i64 (nm t)) (.slice pv l.length cv)
    have x0:=hbx.cell 0
    have x1:=hbx.cell 1
    have x2:=hbx.cell 2
    have hfx : Fr [] w (((wr.setCell ⟨T0 + 1,0,none⟩ (.int .i64 (kd t))).setCell ⟨T0 + 1,1,none⟩ (.int .i64 (nm t))).setCell ⟨T0 + 1,2,none⟩ (.slice pv l.length cv)):=HFR.out.set3 (.inr (by have:=HT0.out;omega)) _ _ _
    refine bodyPost_ret (v:=.agg #[.int .i64 (kd t),.int .i64 (nm t),.slice pv l.length cv]) (by simp [results,Try.results56,go_sem,x0,x1,x2]) rfl ⟨hfx,_,rfl,?_⟩
    have HBB:=HB.out
    have HTT:=HT0.out
    have HOO:=HO0.out
    exact InN.mono (fun k hk hl => ⟨by rcases hk with hk | hk <;> omega,by simpa [World.setCell] using hl,set3_block _ _ _ (by rcases hk with hk | hk <;> omega)⟩) HTV.out
set_option maxRecDepth 100000 in
set_option maxHeartbeats 12800000 in
theorem rsubst_how (B0 : Nat) (L : List Ty) (v : Value) (t : Ty) (rs : List Ty) (cs : List Value) (w : World) (hB : B0 ≤ w.heap.size) (hv : TysV w (fun k => k < B0) L v) (h : TyV w (fun _ => True) t cs) (hl5 : (ar t).length ≤ 100000) (hrl : rs.length = (ar t).length)
  (ihl : ∀ (j : Nat) (x y : Ty),(ar t)[j]? = some x → rs[j]? = some y → ∀ (cs : List Value) (wx : World),Fr [] w wx → TyV wx (fun _ => True) x cs → Calls Try.prog 18 #[v,.agg cs.toArray] wx (TyQ B0 y wx)) (hc : kd t ≠ 5 ∨ (kd t = 5 ∧ nm t < 0) ∨ (kd t = 5 ∧ (L.length : Int) ≤ nm t)) :
  Calls Try.prog 18 #[v,.agg cs.toArray] w (TyQ B0 (.mk (kd t) (nm t) rs) w):=by
 obtain ⟨T0,hT0⟩ : ∃ T0,T0 = w.heap.size:=⟨_,rfl⟩
 obtain ⟨p,c,rfl,ha⟩:=h.shape
 have hlm:=ha.len
 unfold maxLen at hlm
 have HB:=hid hB
 have HV:=hid hv
 have HT:=hid h
 obtain ⟨w1,hw1⟩ : ∃ w1,w1 = (w.alloc (.cells #[.int .i64 (kd t),.int .i64 (nm t),.slice p (ar t).length c] 24)).alloc (.cells #[.int .i64 0,.int .i64 0,.slice none 0 0] 24):=⟨_,rfl⟩
 have HF1 : Hid (Fr [] w w1):=hid (by rw [hw1];exact ((Fr.refl _ _).alloc _).alloc _)
 have HS1 : Hid (w1.heap.size = T0 + 2):=hid (by rw [hw1,hT0];simp)
 have HBT1 : Hid (Blk w1 T0 24 #[.int .i64 (kd t),.int .i64 (nm t),.slice p (ar t).length c]):=hid (by rw [hw1,hT0];exact (Blk.new _ _ _).alloc _)
 have HBR1 : Hid (Blk w1 (T0 + 1) 24 #[.int .i64 0,.int .i64 0,.slice none 0 0]):=hid (by rw [hw1,hT0];exact Blk.new_at (by simp))
 have HT0 : Hid (w.heap.size = T0):=hid hT0.symm
 obtain ⟨ps,kp,rfl⟩:=HV.out.shape
 have IH:=hid ihl
 have HRL:=hid hrl
 have HA:=hid ha
 have HVA : Hid (∀ wx,Fr [] w wx → Calls Try.prog 59 #[.agg #[.int .i64 (kd t),.int .i64 (nm t),.slice p (ar t).length c]] wx (LookP (kd t == 9) wx)):=hid (fun wx hf => rvariable_any t _ wx _ (HT.out.keep0 hf))
 obtain ⟨l,hl⟩ : ∃ l,l = ar t:=⟨_,rfl⟩
 rw [← hl] at IH HRL HA HVA HBT1 hw1 hlm hl5 ⊢
 clear hv h ha hB hrl ihl hl
 rcases hc with h5 | ⟨h5,h0⟩ | ⟨h5,h0⟩
 case' inl =>
  have e1 : (kd t == 5) = false:=by simp [h5]
  clear h5
  go_enter Try.func18,Try.ntmps18
  go_wp2_with fail
  rw [← hw1]
  obtain ⟨w2,hw2⟩ : ∃ w2,w2 = w1:=⟨_,rfl⟩
  have HF2 : Hid (Fr [] w w2):=hid (by rw [hw2];exact HF1.out)
  have HBT2 : Hid (Blk w2 T0 24 #[.int .i64 (kd t),.int .i64 (nm t),.slice p l.length c]):=hid (by rw [hw2];exact HBT1.out)
  have HBR2 : Hid (Blk w2 (T0 + 1) 24 #[.int .i64 0,.int .i64 0,.slice none 0 0]):=hid (by rw [hw2];exact HBR1.out)
  have hs2 : T0 + 1 + 1 = w2.heap.size:=by rw [hw2,HS1.out]
  rw [← hw2,HT0.out,hs2]
  clear hw1 hT0 hw2 hs2
  have x0 : w2.cell? ⟨T0,0,none⟩ = some (.int .i64 (kd t)):=HBT2.out.cell 0
  have x1 : w2.cell? ⟨T0,1,none⟩ = some (.int .i64 (nm t)):=HBT2.out.cell 1
  have xl : T0 < w2.heap.size:=HBT2.out.lt
 case' inr.inl =>
  have e1 : (kd t == 5) = true:=by simp [h5]
  have e2 : decide (0 ≤ nm t) = false:=by simp;omega
  clear h5 h0
  go_enter Try.func18,Try.ntmps18
  go_wp2_with fail
  rw [← hw1]
  obtain ⟨w2,hw2⟩ : ∃ w2,w2 = w1:=⟨_,rfl⟩
  have HF2 : Hid (Fr [] w w2):=hid (by rw [hw2];exact HF1.out)
  have HBT2 : Hid (Blk w2 T0 24 #[.int .i64 (kd t),.int .i64 (nm t),.slice p l.length c]):=hid (by rw [hw2];exact HBT1.out)
  have HBR2 : Hid (Blk w2 (T0 + 1) 24 #[.int .i64 0,.int .i64 0,.slice none 0 0]):=hid (by rw [hw2];exact HBR1.out)
  have hs2 : T0 + 1 + 1 = w2.heap.size:=by rw [hw2,HS1.out]
  rw [← hw2,HT0.out,hs2]
  clear hw1 hT0 hw2 hs2
  have x0 : w2.cell? ⟨T0,0,none⟩ = some (.int .i64 (kd t)):=HBT2.out.cell 0
  have x1 : w2.cell? ⟨T0,1,none⟩ = some (.int .i64 (nm t)):=HBT2.out.cell 1
  have xl : T0 < w2.heap.size:=HBT2.out.lt
 case' inr.inr =>
  have e1 : (kd t == 5) = true:=by simp [h5]
  have e2 : decide (nm t < (L.length : Int)) = false:=by simp;omega
  have e3 : decide (0 ≤ nm t) = true:=by simp;omega
  clear h5 h0
  go_enter Try.func18,Try.ntmps18
  go_wp2_with fail
  rw [← hw1]
  obtain ⟨w2,hw2⟩ : ∃ w2,w2 = w1:=⟨_,rfl⟩
  have HF2 : Hid (Fr [] w w2):=hid (by rw [hw2];exact HF1.out)
  have HBT2 : Hid (Blk w2 T0 24 #[.int .i64 (kd t),.int .i64 (nm t),.slice p l.length c]):=hid (by rw [hw2];exact HBT1.out)
  have HBR2 : Hid (Blk w2 (T0 + 1) 24 #[.int .i64 0,.int .i64 0,.slice none 0 0]):=hid (by rw [hw2];exact HBR1.out)
  have hs2 : T0 + 1 + 1 = w2.heap.size:=by rw [hw2,HS1.out]
  rw [← hw2,HT0.out,hs2]
  clear hw1 hT0 hw2 hs2
  have x0 : w2.cell? ⟨T0,0,none⟩ = some (.int .i64 (kd t)):=HBT2.out.cell 0
  have x1 : w2.cell? ⟨T0,1,none⟩ = some (.int .i64 (nm t)):=HBT2.out.cell 1
  have xl : T0 < w2.heap.size:=HBT2.out.lt
 all_goals
  obtain ⟨O0,hO0⟩ : ∃ O0,O0 = w2.heap.size:=⟨_,rfl⟩
  rw [← hO0]
  obtain ⟨w3,hw3⟩ : ∃ w3,w3 = w2.alloc (.cells #[.int .i64 (kd t),.int .i64 (nm t),.slice none 0 0] 24):=⟨_,rfl⟩
  rw [← hw3]
  have hf3 : Fr [] w2 w3:=by rw [hw3];exact (Fr.refl _ _).alloc _
  have HBO3 : Hid (Blk w3 O0 24 #[.int .i64 (kd t),.int .i64 (nm t),.slice none 0 0]):=hid (by rw [hw3,hO0];exact Blk.new _ _ _)
  have HO0 : Hid (T0 + 2 ≤ O0):=hid (by rw [hO0];have:=HBR2.out.lt;omega)
  have HBT3:=hid (HBT2.out.keep hf3 (by simp))
  have HBR3:=hid (HBR2.out.keep hf3 (by simp))
  have HF3:=hid (HF2.out.trans hf3)
  clear hf3 HBT2 HBR2 HF2 hw3 hO0 x0 x1 xl
  obtain ⟨i0,hi0,hz0,hz1,hz2⟩:=info_parts info_ty
  have HI0:=hid hi0
  clear hi0
  go_loopw [6] (fun x wr => ∃ (j : Nat) (pv : Option Addr) (cv : Nat),x = .int .i64 j ∧ j ≤ l.length ∧ Hid (Fr [] w wr) ∧ Hid (Blk wr T0 24 #[.int .i64 (kd t),.int .i64 (nm t),.slice p l.length c]) ∧ Hid (Blk wr (T0 + 1) 24 #[.int .i64 0,.int .i64 0,.slice none 0 0]) ∧ Hid (Blk wr (O0) 24 #[.int .i64 (kd t),.int .i64 (nm t),.slice pv j cv]) ∧ Hid (OwnL wr (fun k => k < B0 ∨ O0 + 1 ≤ k) (O0 + 1) 24 3 j (rowsQ qTy (rs.take j)) (.slice pv j cv))) (fun x _ => l.length - (RowKit.intOf x).toNat)
  case atStart => exact ⟨0,none,0,rfl,Nat.zero_le _,HF3,HBT3,HBR3,HBO3,hid (by rw [List.take_zero,rowsQ];exact OwnL.nil _ _ _ _ _)⟩
  case round =>
   obtain ⟨j,pv,cv,rfl,hj,HFR,HBT,HBR,HBO,HO⟩:=hrel
   have b2 : wr.cell? ⟨T0,2,none⟩ = some (.slice p l.length c):=HBT.out.cell 2
   have bl : T0 < wr.heap.size:=HBT.out.lt
   by_cases hlt : j < l.length
   ·have hd2 : decide ((j : Int) < (l.length : Int)) = true:=by simp;omega
    have hd3 : decide (j < l.length) = true:=by simpa using hlt
    obtain ⟨b,o,rfl,hat⟩ : ∃ b o,p = some ⟨b,o,none⟩ ∧ TysAt w (fun _ => True) l b o:=by
     rcases HA.out.cases with ⟨h,_⟩ | ⟨_,b,o,cap,heq,_,_,hat⟩
     ·rw [h] at hlt;simp at hlt
     ·simp only [Value.slice.injEq] at heq
      exact ⟨b,o,heq.1,hat⟩
    obtain ⟨wd,hwd⟩ : ∃ wd,wd = wr.drew:=⟨_,rfl⟩
    have HFD : Hid (Fr [] w wd):=hid (by rw [hwd];exact HFR.out.drew)
    have HFD1 : Hid (Fr [] wr wd):=hid (by rw [hwd];exact (Fr.refl _ _).drew)
    obtain ⟨p1,c1,k1,hb,g0,g1,g2⟩:=hat.el HFR.out (by simp) (List.getElem?_eq_getElem hlt)
    obtain ⟨x,hx⟩ : ∃ x,x = l[j]:=⟨_,rfl⟩
    have HLX : Hid (l[j]? = some x):=hid (by rw [hx];exact List.getElem?_eq_getElem hlt)
    rw [← hx] at g0 g1 g2 k1
    have K1:=hid k1
    obtain ⟨y,HY⟩ : ∃ y,Hid (rs[j]? = some y):=⟨_,hid (List.getElem?_eq_getElem (by rw [HRL.out];exact hlt))⟩
    have HTK : Hid (rs.take (j + 1) = rs.take j ++ [y]):=hid (by rw [List.take_add_one,HY.out];rfl)
    have o2 : wr.cell? ⟨O0,2,none⟩ = some (.slice pv j cv):=HBO.out.cell 2
    have ol : O0 < wr.heap.size:=HBO.out.lt
    have odl : O0 < wd.heap.size:=(HBO.out.keep HFD1.out (by simp)).lt
    have HCE : Hid (∀ wx,Fr [] wd wx → wx.cell? ⟨O0,2,none⟩ = some (.slice pv j cv) ∧ wx.frozen? ⟨O0,2,none⟩ = false ∧ O0 < wx.heap.size):=hid (fun wx hf => ⟨by rw [hf.cell odl (by simp)];exact (HBO.out.keep HFD1.out (by simp)).cell 2,by rw [hf.frozen odl (by simp)];exact (HBO.out.keep HFD1.out (by simp)).frozen 2,Nat.lt_of_lt_of_le odl hf.size⟩)
    have HCL : Hid (Calls Try.prog 18 #[_,.agg #[.int .i64 (kd x),.int .i64 (nm x),.slice p1 (ar x).length c1]] wd (TyQ B0 y wd)):=IH.out j x y HLX.out HY.out _ wd HFD.out (K1.out.keep0 HFD1.out)
    have HOD:=hid (HO.out.keep HFD1.out (by simp))
    have HZD : Hid (O0 + 1 ≤ wd.heap.size):=hid (by omega)
    clear k1 hat hx odl
    go_wp2_with fail
    go_region_law (first | (go_simp;go_at_call 18;(try rw [← hwd]);(with_reducible refine HCL.out.mono ?_);rintro e w5 ⟨hf5,ds,rfl,hty⟩;obtain ⟨p5,c5,rfl,_⟩:=hty.shape;have HF5:=hid hf5;obtain ⟨n1,n2,n3⟩:=HCE.out w5 hf5;have hrow : InN w5 (fun k => (k < B0 ∨ O0 + 1 ≤ k) ∧ (Value.slice pv j cv).ownBlock ≠ some k) (qTy y) [.int .i64 (kd y),.int .i64 (nm y),.slice p5 (ar y).length c5]:=InN.weak hty (fun k _ hk => ⟨by (have:=HZD.out);(rcases hk with hk | hk <;> omega),fun e => by (have:=HOD.out.own k e);(have:=HB.out);(have:=HT0.out);(have:=HO0.out);(rcases hk with hk | hk <;> omega)⟩);have HROW:=hid hrow;obtain ⟨r1,r2,r3,r4⟩:=ownl_ready2 (HOD.out.keep hf5 (by simp)) (by (have:=hf5.size);(have:=HZD.out);omega) hrow 24;have R1:=hid r1;have R2:=hid r2;have R3:=hid r3;have R4:=hid r4;clear r1 r2 r3 r4 hrow hty hf5) | (refine step_append_ownl _ (by rfl) _ _ 22 (by rfl) (fun k => k < B0 ∨ O0 + 1 ≤ k) (O0 + 1) 24 i0 _ 3 40 Try.underlying22 HI0.out hz0 hz1 hz2 rfl (by decide) (.slice pv j cv) j 1 (rowsQ qTy (rs.take j)) (qTy y) (by rfl) R1.out ⟨w5.heap.size,0,none⟩ 1 [.int .i64 (kd y),.int .i64 (nm y),.slice p5 (ar y).length c5] (by rfl) rfl R2.out R3.out (by omega) (by decide) R4.out ?_;intro p6 c6 w6 hL6 hg6 hv6;have HL6:=hid hL6;have HG6 : Hid (Fr (Value.slice pv j cv).ownBlock.toList w5 w6):=hid (((Fr.refl _ w5).alloc (.cells #[.int .i64 (kd y),.int .i64 (nm y),.slice p5 (ar y).length c5] 24)).grown hg6 (fun k hk => .inl (by simp [hk])));have m1 : w6.cell? ⟨O0,2,none⟩ = some (.slice pv j cv):=(HG6.out.cell n3 (fun hx => by (have:=(HOD.out.own _ (by simpa using hx)).1);omega) 2).trans n1;have m2 : w6.frozen? ⟨O0,2,none⟩ = false:=(HG6.out.frozen n3 (fun hx => by (have:=(HOD.out.own _ (by simpa using hx)).1);omega) 2).trans n2;have m3 : O0 < w6.heap.size:=Nat.lt_of_lt_of_le n3 HG6.out.size;clear hL6 hg6 hv6))
    all_goals
     have HF56 : Hid (Fr (Value.slice pv j cv).ownBlock.toList wd w6):=hid ((HF5.out.nil _).trans HG6.out)
     have hown : ∀ k,k ∈ (Value.slice pv j cv).ownBlock.toList → O0 + 1 ≤ k:=fun k hk => (HOD.out.own k (by simpa using hk)).1
     have HF6 : Hid (Fr [] w (w6.setCell ⟨O0,2,none⟩ (.slice p6 (j + 1) c6))):=hid (((HFD.out.nil _).trans HF56.out).sub (Y:=[]) (fun k hk => .inr (by have:=hown k hk;have:=HT0.out;have:=HO0.out;omega)) |>.setCell (.inr (by have:=HT0.out;have:=HO0.out;show w.heap.size ≤ O0;omega)) _)
     have HBT6 : Hid (Blk (w6.setCell ⟨O0,2,none⟩ (.slice p6 (j + 1) c6)) T0 24 #[.int .i64 (kd t),.int .i64 (nm t),.slice (some ⟨b,o,none⟩) l.length c]):=hid ((((HBT.out.keep HFD1.out (by simp)).keep HF56.out (fun hx => by have:=hown _ hx;have:=HO0.out;omega))).other (by have:=HO0.out;show T0 ≠ O0;omega) _)
     have HBR6 : Hid (Blk (w6.setCell ⟨O0,2,none⟩ (.slice p6 (j + 1) c6)) (T0 + 1) 24 #[.int .i64 0,.int .i64 0,.slice none 0 0]):=hid ((((HBR.out.keep HFD1.out (by simp)).keep HF56.out (fun hx => by have:=hown _ hx;have:=HO0.out;omega))).other (by have:=HO0.out;show T0 + 1 ≠ O0;omega) _)
     have HBO6 : Hid (Blk (w6.setCell ⟨O0,2,none⟩ (.slice p6 (j + 1) c6)) (O0) 24 #[.int .i64 (kd t),.int .i64 (nm t),.slice p6 (j + 1) c6]):=hid ((((HBO.out.keep HFD1.out (by simp)).keep HF56.out (fun hx => by have:=hown _ hx;have:=HO0.out;omega))).set 2 _)
     have HO6 : Hid (OwnL (w6.setCell ⟨O0,2,none⟩ (.slice p6 (j + 1) c6)) (fun k => k < B0 ∨ O0 + 1 ≤ k) (O0 + 1) 24 3 (j + 1) (rowsQ qTy (rs.take (j + 1))) (.slice p6 (j + 1) c6)):=hid (by
      rw [HTK.out,rowsQ_snoc]
      exact HL6.out.keep (X:=[O0]) ((Fr.refl [O0] _).setCell (.inl (by simp)) _) (fun k hk => by rw [List.mem_singleton] at hk;subst hk;have:=HB.out;have:=HT0.out;have:=HO0.out;exact ⟨by omega,by omega⟩))
     clear hown m1 m2 m3 n1 n2 n3 o2 ol g0 g1 g2
     generalize w6.setCell ⟨O0,2,none⟩ (.slice p6 (j + 1) c6) = w7 at HF6 HBT6 HBR6 HBO6 HO6
     go_wp2_with fail
     go_roundw
     case rel => exact ⟨j + 1,p6,c6,by go_num,by omega,HF6,HBT6,HBR6,HBO6,HO6⟩
     case measure => simp [RowKit.intOf];omega
   ·have hd2 : decide ((j : Int) < (l.length : Int)) = false:=by simp;omega
    have hd3 : decide (j < l.length) = false:=by simpa using hlt
    obtain rfl : j = l.length:=by omega
    have htk : rs.take l.length = rs:=List.take_of_length_le (by rw [HRL.out];exact Nat.le_refl _)
    have o0 : wr.cell? ⟨O0,0,none⟩ = some (.int .i64 (kd t)):=HBO.out.cell 0
    have o1 : wr.cell? ⟨O0,1,none⟩ = some (.int .i64 (nm t)):=HBO.out.cell 1
    have o2 : wr.cell? ⟨O0,2,none⟩ = some (.slice pv l.length cv):=HBO.out.cell 2
    have ol : O0 < wr.heap.size:=HBO.out.lt
    have u0 : wr.cell? ⟨T0 + 1,0,none⟩ = some (.int .i64 0):=HBR.out.cell 0
    have u1 : wr.cell? ⟨T0 + 1,1,none⟩ = some (.int .i64 0):=HBR.out.cell 1
    have u2 : wr.cell? ⟨T0 + 1,2,none⟩ = some (.slice none 0 0):=HBR.out.cell 2
    have ul : T0 + 1 < wr.heap.size:=HBR.out.lt
    have f0:=HBR.out.frozen 0
    have f1:=HBR.out.frozen 1
    have f2:=HBR.out.frozen 2
    have hTV : TyV wr (fun k => k < B0 ∨ O0 + 1 ≤ k) (.mk (kd t) (nm t) rs) [.int .i64 (kd t),.int .i64 (nm t),.slice pv l.length cv]:=TyV.mk (by
     have h1:=HO.out
     rw [htk] at h1
     unfold TysV
     rw [HRL.out]
     exact h1.inn (fun k _ h => by omega) (fun k h => by omega))
    have HTV:=hid hTV
    clear htk hTV
    go_wp2_with fail
    have hbx:=HBR.out.set3 (.int .i64 (kd t)) (.int .i64 (nm t)) (.slice pv l.length cv)
    have x0:=hbx.cell 0
    have x1:=hbx.cell 1
    have x2:=hbx.cell 2
    have hfx : Fr [] w (((wr.setCell ⟨T0 + 1,0,none⟩ (.int .i64 (kd t))).setCell ⟨T0 + 1,1,none⟩ (.int .i64 (nm t))).setCell ⟨T0 + 1,2,none⟩ (.slice pv l.length cv)):=HFR.out.set3 (.inr (by have:=HT0.out;omega)) _ _ _
    refine bodyPost_ret (v:=.agg #[.int .i64 (kd t),.int .i64 (nm t),.slice pv l.length cv]) (by simp [results,Try.results18,go_sem,x0,x1,x2]) rfl ⟨hfx,_,rfl,?_⟩
    have HBB:=HB.out
    have HTT:=HT0.out
    have HOO:=HO0.out
    exact InN.mono (fun k hk hl => ⟨by rcases hk with hk | hk <;> omega,by simpa [World.setCell] using hl,set3_block _ _ _ (by rcases hk with hk | hk <;> omega)⟩) HTV.out
end Go.Proofs.Ytcdlnhfgehhkcaa
