/- part of the proof -/
import Derived.Test.YtcdlnhfgehhkcaaQ28
import Derived.Test.YtcdlnhfgehhkcaaQ05
set_option linter.unusedVariables false
set_option linter.unusedSimpArgs false
set_option linter.unusedSectionVars false
namespace Go.Proofs.Ytcdlnhfgehhkcaa
open Go.RowKit Go.Lib
open Un (kd nm ar size sizes acc accs fits stored valid)
set_option maxRecDepth 100000 in
set_option maxHeartbeats 40000000 in
theorem f_loop (ds : List Int) (p n : Int) (ps cs : List Value) (t : Ty) (w : World) (hp : ProgV w (fun _ => True) ds ps) (h : TyV w (fun _ => True) t cs) (hn : 1 ≤ n) (hn8 : n ≤ 8) (K N : Int) (hk : kd t = K) (hN : nm t = N) (G : Ty → Bool) (z : Nat) (hz : (ar t).length = z)
  (hc : ((K = 3 ∨ K = 4 ∨ K = 8) ∧ N = 0 ∧ z = 1) ∨ (K = 7 ∧ N = 0 ∧ z = 1 ∧ ∃ x0,(ar t)[0]? = some x0 ∧ kd x0 ≠ 6) ∨ (K = 2 ∧ ∃ (i : Nat) (hi : i < ds.length),N = i ∧ (z : Int) = ds[i]))
  (ih : ∀ x ∈ ar t,∀ (cs : List Value) (wx : World),Fr [] w wx → TyV wx (fun _ => True) x cs → Calls Try.prog 58 #[.agg ps.toArray,.int .i64 p,.agg cs.toArray,.int .i64 (n - 1)] wx (LookP (G x) wx)) : Calls Try.prog 58 #[.agg ps.toArray,.int .i64 p,.agg cs.toArray,.int .i64 n] w (LookP ((ar t).all (fun a => Un.stored a && G a)) w):=by
 obtain ⟨p0,n0,c0,p1,n1,c1,dv,p3,n3,c3,p4,n4,c4,p5,n5,c5,p6,n6,c6,m,rfl,hd⟩:=hp
 obtain ⟨pt,ct,rfl,hat⟩:=h.shape
 obtain ⟨pd,cd,rfl⟩:=hd.shape
 have en : decide (n < 1) = false:=decide_eq_false (by omega)
 have hzl : z ≤ 2 ^ 63 - 1:=by have:=hat.len;unfold maxLen at this;rw [← hz];exact this
 have HCC:=hid hc
 have HD:=hid hd
 have IH:=hid ih
 have HA:=hid hat
 obtain ⟨l,hl⟩ : ∃ l,l = ar t:=⟨_,rfl⟩
 have HLZ : Hid (l.length = z):=hid (by rw [hl];exact hz)
 rw [← hl] at IH HA HCC
 rw [HLZ.out] at HA
 rw [← hl]
 rw [hl,hz,← hl]
 rw [hk,hN]
 obtain ⟨T0,hT0⟩ : ∃ T0,T0 = w.heap.size:=⟨_,rfl⟩
 obtain ⟨w1,hw1⟩ : ∃ w1,w1 = (w.alloc (.cells #[.slice p0 n0 c0,.slice p1 n1 c1,.slice pd ds.length cd,.slice p3 n3 c3,.slice p4 n4 c4,.slice p5 n5 c5,.slice p6 n6 c6,.int .i64 m] 32)).alloc (.cells #[.int .i64 K,.int .i64 N,.slice pt z ct] 24):=⟨_,rfl⟩
 have HF1 : Hid (Fr [] w w1):=hid (by rw [hw1];exact ((Fr.refl _ _).alloc _).alloc _)
 have HP1 : Hid (Blk w1 T0 32 #[.slice p0 n0 c0,.slice p1 n1 c1,.slice pd ds.length cd,.slice p3 n3 c3,.slice p4 n4 c4,.slice p5 n5 c5,.slice p6 n6 c6,.int .i64 m]):=hid (by rw [hw1,hT0];exact (Blk.new _ _ _).alloc _)
 have HT1 : Hid (Blk w1 (T0 + 1) 24 #[.int .i64 K,.int .i64 N,.slice pt z ct]):=hid (by rw [hw1,hT0];exact Blk.new_at (by simp))
 have HT0 : Hid (w.heap.size = T0):=hid hT0.symm
 have HW1:=hid hw1
 clear h hat hd hk hN ih hz hl hc hw1
 have hc:=HCC.out
 clear HCC
 rcases hc with ⟨hK | hK | hK,hN0,h2⟩ | ⟨hK,hN0,h2,x0,hx0,hx6⟩ | ⟨hK,i,hi,hi0,h3⟩
 case' inl.inl =>
  have k1 : (K == 1) = false:=by rw [hK];rfl
  have k2 : (K == 2) = false:=by rw [hK];rfl
  have k3 : (K == 3) = true:=by rw [hK];rfl
  have k4 : (K == 4) = false:=by rw [hK];rfl
  have k5 : (K == 5) = false:=by rw [hK];rfl
  have k6 : (K == 6) = false:=by rw [hK];rfl
  have k7 : (K == 7) = false:=by rw [hK];rfl
  have k8 : (K == 8) = false:=by rw [hK];rfl
  have e1 : (N != 0) = false:=by simp [hN0]
  have e2 : ((z : Int) != 1) = false:=by simp;omega
  clear hN0
  clear h2
  clear hK hT0
  go_enter Try.func58,Try.ntmps58
  go_wp2_with fail
  rw [← HW1.out,HT0.out]
  clear HW1 HD e1 e2 en k1 k2 k3 k4 k5 k6 k7 k8
 case' inl.inr.inl =>
  have k1 : (K == 1) = false:=by rw [hK];rfl
  have k2 : (K == 2) = false:=by rw [hK];rfl
  have k3 : (K == 3) = false:=by rw [hK];rfl
  have k4 : (K == 4) = true:=by rw [hK];rfl
  have k5 : (K == 5) = false:=by rw [hK];rfl
  have k6 : (K == 6) = false:=by rw [hK];rfl
  have k7 : (K == 7) = false:=by rw [hK];rfl
  have k8 : (K == 8) = false:=by rw [hK];rfl
  have e1 : (N != 0) = false:=by simp [hN0]
  have e2 : ((z : Int) != 1) = false:=by simp;omega
  clear hN0
  clear h2
  clear hK hT0
  go_enter Try.func58,Try.ntmps58
  go_wp2_with fail
  rw [← HW1.out,HT0.out]
  clear HW1 HD e1 e2 en k1 k2 k3 k4 k5 k6 k7 k8
 case' inl.inr.inr =>
  have k1 : (K == 1) = false:=by rw [hK];rfl
  have k2 : (K == 2) = false:=by rw [hK];rfl
  have k3 : (K == 3) = false:=by rw [hK];rfl
  have k4 : (K == 4) = false:=by rw [hK];rfl
  have k5 : (K == 5) = false:=by rw [hK];rfl
  have k6 : (K == 6) = false:=by rw [hK];rfl
  have k7 : (K == 7) = false:=by rw [hK];rfl
  have k8 : (K == 8) = true:=by rw [hK];rfl
  have e1 : (N != 0) = false:=by simp [hN0]
  have e2 : ((z : Int) != 1) = false:=by simp;omega
  clear hN0
  clear h2
  clear hK hT0
  go_enter Try.func58,Try.ntmps58
  go_wp2_with fail
  rw [← HW1.out,HT0.out]
  clear HW1 HD e1 e2 en k1 k2 k3 k4 k5 k6 k7 k8
 case' inr.inl =>
  have k1 : (K == 1) = false:=by rw [hK];rfl
  have k2 : (K == 2) = false:=by rw [hK];rfl
  have k3 : (K == 3) = false:=by rw [hK];rfl
  have k4 : (K == 4) = false:=by rw [hK];rfl
  have k5 : (K == 5) = false:=by rw [hK];rfl
  have k6 : (K == 6) = false:=by rw [hK];rfl
  have k7 : (K == 7) = true:=by rw [hK];rfl
  have k8 : (K == 8) = false:=by rw [hK];rfl
  have e1 : (N != 0) = false:=by simp [hN0]
  have e2 : ((z : Int) != 1) = false:=by simp;omega
  clear hN0
  have e7 : decide (0 < z) = true:=decide_eq_true (by omega)
  have e8 : (0 : Int) < (z : Int):=by omega
  obtain ⟨b9,o9,hpt9,hat9⟩:=TysV.elem (s:=l) (n:=z) HA.out hx0
  obtain ⟨q9,d9,k9,hb9,y0,y1,y2⟩:=hat9.el (Fr.refl [] w) (by simp) hx0
  rw [Nat.zero_mul,Nat.add_zero] at y0
  have e6 : (kd x0 == 6) = false:=by simpa using hx6
  have HPT:=hid hpt9
  rw [hpt9]
  clear h2 hat9 k9 y1 y2 hx0 hx6 hpt9
  clear hK hT0
  go_enter Try.func58,Try.ntmps58
  go_wp2_with fail
  rw [← HPT.out,← HW1.out,HT0.out]
  clear HPT HW1 HD e1 e2 en k1 k2 k3 k4 k5 k6 k7 k8 e6 e7 e8 hb9 y0
 case' inr.inr =>
  have k1 : (K == 1) = false:=by rw [hK];rfl
  have k2 : (K == 2) = true:=by rw [hK];rfl
  have k3 : (K == 3) = false:=by rw [hK];rfl
  have k4 : (K == 4) = false:=by rw [hK];rfl
  have k5 : (K == 5) = false:=by rw [hK];rfl
  have k6 : (K == 6) = false:=by rw [hK];rfl
  have k7 : (K == 7) = false:=by rw [hK];rfl
  have k8 : (K == 8) = false:=by rw [hK];rfl
  obtain ⟨bd,od,cap,hdv,g2,gl⟩:=HD.out.el hi
  simp only [Value.slice.injEq,true_and] at hdv
  obtain ⟨hpd,rfl⟩:=hdv
  have hdl:=(InN.slLen HD.out : ds.length ≤ maxLen)
  unfold maxLen at hdl
  have e1 : decide ((i : Int) < 0) = false:=decide_eq_false (by omega)
  have e2 : decide ((ds.length : Int) ≤ (i : Int)) = false:=decide_eq_false (by omega)
  have e22 : decide (ds.length ≤ i) = false:=decide_eq_false (by omega)
  have e5 : decide (i < ds.length) = true:=decide_eq_true hi
  have e6 : (i : Int) < (ds.length : Int):=by omega
  obtain ⟨x,hx⟩ : ∃ x,x = ds[i]:=⟨_,rfl⟩
  rw [← hx] at g2
  rw [← hx] at h3
  have e3 : ((z : Int) != x) = false:=by simp [h3]
  have HPD:=hid hpd
  have HI0:=hid hi0
  rw [hpd,hi0]
  clear hpd hi0 h3 hx
  clear hK hT0
  go_enter Try.func58,Try.ntmps58
  go_wp2_with fail
  rw [← HPD.out,← HI0.out,← HW1.out,HT0.out]
  clear HPD HI0 HW1 HD e1 e2 e22 e3 e5 e6 en k1 k2 k3 k4 k5 k6 k7 k8 g2 gl hi hdl
 all_goals
  go_loopw [10] (fun x wr => ∃ j : Nat,x = .int .i64 j ∧ j ≤ z ∧ Hid ((l.take j).all (fun a => Un.stored a && G a) = true) ∧ Hid (Fr [] w wr) ∧ Hid (Blk wr T0 32 #[.slice p0 n0 c0,.slice p1 n1 c1,.slice pd ds.length cd,.slice p3 n3 c3,.slice p4 n4 c4,.slice p5 n5 c5,.slice p6 n6 c6,.int .i64 m]) ∧ Hid (Blk wr (T0 + 1) 24 #[.int .i64 K,.int .i64 N,.slice pt z ct])) (fun x _ => z - (RowKit.intOf x).toNat)
  case atStart => exact ⟨0,rfl,Nat.zero_le _,hid (by simp),HF1,HP1,HT1⟩
  case round =>
   obtain ⟨j,rfl,hj,HG,HFR,HPR,HTR⟩:=hrel
   by_cases hlt : j < z
   ·have hd2 : decide ((j : Int) < (z : Int)) = true:=decide_eq_true (by omega)
    have hd3 : decide (j < z) = true:=decide_eq_true hlt
    have hd4 : (j : Int) < (z : Int):=by omega
    obtain ⟨x,hx⟩ : ∃ x,l[j]? = some x:=⟨_,List.getElem?_eq_getElem (by rw [HLZ.out];exact hlt)⟩
    have hat2 : ∃ b o,pt = some ⟨b,o,none⟩ ∧ TysAt w (fun _ => True) l b o:=TysV.elem (s:=l) (n:=z) HA.out hx
    obtain ⟨b,o,hpt,hat2⟩:=hat2
    subst hpt
    obtain ⟨q1,d1,k1,hb1,g0,g1,g2⟩:=hat2.el HFR.out (by simp) hx
    have HTK : Hid (l.take (j + 1) = l.take j ++ [x]):=hid (by rw [List.take_add_one,hx];rfl)
    have HMX:=hid (List.mem_of_getElem? hx)
    obtain ⟨wd,hwd⟩ : ∃ wd,wd = wr.drew:=⟨_,rfl⟩
    have hfd : Fr [] wr wd:=by rw [hwd];exact (Fr.refl _ _).drew
    have HNN : Hid (Fr [] wd wd):=hid (Fr.refl _ _)
    have HFW : Hid (Fr [] w wd):=hid (HFR.out.trans hfd)
    have HPD:=hid (HPR.out.keep hfd (by simp))
    have HTD:=hid (HTR.out.keep hfd (by simp))
    have t2 : wr.cell? ⟨T0 + 1,2,none⟩ = some (.slice (some ⟨b,o,none⟩) z ct):=HTR.out.cell 2
    have tl : T0 + 1 < wr.heap.size:=HTR.out.lt
    have KX : Hid (∀ wx,Fr [] wd wx → TyV wx (fun _ => True) x [.int .i64 (kd x),.int .i64 (nm x),.slice q1 (ar x).length d1]):=hid (fun wx hf => k1.keep0 (hfd.trans hf))
    have HCE : Hid (∀ wx,Fr [] wd wx → wx.cell? ⟨T0 + 1,2,none⟩ = some (.slice (some ⟨b,o,none⟩) z ct) ∧ T0 + 1 < wx.heap.size ∧ wx.cell? ⟨b,o + j * 3,none⟩ = some (.int .i64 (kd x)) ∧ wx.cell? ⟨b,o + j * 3 + 1,none⟩ = some (.int .i64 (nm x)) ∧ wx.cell? ⟨b,o + j * 3 + 2,none⟩ = some (.slice q1 (ar x).length d1) ∧ wx.cell? ⟨T0,0,none⟩ = some (.slice p0 n0 c0) ∧ wx.cell? ⟨T0,1,none⟩ = some (.slice p1 n1 c1) ∧ wx.cell? ⟨T0,2,none⟩ = some (.slice pd ds.length cd) ∧ wx.cell? ⟨T0,3,none⟩ = some (.slice p3 n3 c3) ∧ wx.cell? ⟨T0,4,none⟩ = some (.slice p4 n4 c4) ∧ wx.cell? ⟨T0,5,none⟩ = some (.slice p5 n5 c5) ∧ wx.cell? ⟨T0,6,none⟩ = some (.slice p6 n6 c6) ∧ wx.cell? ⟨T0,7,none⟩ = some (.int .i64 m) ∧ T0 < wx.heap.size):=hid (fun wx hf =>
     ⟨(HTD.out.keep hf (by simp)).cell 2,(HTD.out.keep hf (by simp)).lt,((hfd.trans hf).cell hb1 (by simp) _).trans g0,((hfd.trans hf).cell hb1 (by simp) _).trans g1,((hfd.trans hf).cell hb1 (by simp) _).trans g2,(HPD.out.keep hf (by simp)).cell 0,(HPD.out.keep hf (by simp)).cell 1,(HPD.out.keep hf (by simp)).cell 2,(HPD.out.keep hf (by simp)).cell 3,(HPD.out.keep hf (by simp)).cell 4,(HPD.out.keep hf (by simp)).cell 5,(HPD.out.keep hf (by simp)).cell 6,(HPD.out.keep hf (by simp)).cell 7,(HPD.out.keep hf (by simp)).lt⟩)
    have u0 : wr.cell? ⟨T0,0,none⟩ = some (.slice p0 n0 c0):=HPR.out.cell 0
    have u1 : wr.cell? ⟨T0,1,none⟩ = some (.slice p1 n1 c1):=HPR.out.cell 1
    have u2 : wr.cell? ⟨T0,2,none⟩ = some (.slice pd ds.length cd):=HPR.out.cell 2
    have u3 : wr.cell? ⟨T0,3,none⟩ = some (.slice p3 n3 c3):=HPR.out.cell 3
    have u4 : wr.cell? ⟨T0,4,none⟩ = some (.slice p4 n4 c4):=HPR.out.cell 4
    have u5 : wr.cell? ⟨T0,5,none⟩ = some (.slice p5 n5 c5):=HPR.out.cell 5
    have u6 : wr.cell? ⟨T0,6,none⟩ = some (.slice p6 n6 c6):=HPR.out.cell 6
    have u7 : wr.cell? ⟨T0,7,none⟩ = some (.int .i64 m):=HPR.out.cell 7
    have ul : T0 < wr.heap.size:=HPR.out.lt
    clear k1 hat2 hx hfd
    cases hst : Un.stored x with
    | false =>
     have HST : Hid (∀ wx,Fr [] wd wx → Calls Try.prog 24 #[.agg #[.int .i64 (kd x),.int .i64 (nm x),.slice q1 (ar x).length d1]] wx (LookP false wx)):=hid (fun wx hf => by
      have h1:=rstored_any x _ wx _ (KX.out wx hf)
      rwa [hst] at h1)
     have HQ : Hid (l.all (fun a => Un.stored a && G a) = false):=hid (by
      cases hq : l.all (fun a => Un.stored a && G a) with
      | false => rfl
      | true => have h1:=(List.all_eq_true.1 hq) x HMX.out;rw [hst] at h1;cases h1)
     clear hst
     go_wp2_with fail
     refine wp_region_any (by kernel_rfl) ?_
     change wpAny _ _ _ _ _ _ _ (World.drew _)
     try rw [← hwd]
     obtain ⟨z2,zl,z3,z4,z5,v0,v1,v2,v3,v4,v5,v6,v7,vl⟩:=HCE.out wd HNN.out
     all_goals (refine wpAny_take (i:=2) (v:=.int .i64 j) rfl ?_ ?_ ?_ (fun _ _ _ h => h) (Or.inl ⟨by rfl,?_⟩) ?_;(focus (decide +kernel));(focus (decide +kernel));(focus (decide +kernel));(focus (intro w;go_simp;first | done | with_reducible rfl | exact IntWalk.i64_in _ (by omega))))
     all_goals (refine wpAny_ready (rs:=[0]) ?_ (by simp) ?_;(focus (decide +kernel));refine AllReady.cons rfl (fun K hK => ?_) AllReady.nil;go_simp;refine hK _ _ ?_;clear hK K)
     all_goals (refine wpAny_ready (rs:=[1]) ?_ (by simp) ?_;(focus (decide +kernel));refine AllReady.cons rfl (fun K hK => ?_) AllReady.nil;go_simp;refine hK _ _ ?_;clear hK K)
     all_goals (refine wpAny_ready (rs:=[3]) ?_ (by simp) ?_;(focus (decide +kernel));refine AllReady.cons rfl (fun K hK => ?_) AllReady.nil;go_simp;refine hK _ _ ?_;clear hK K)
     all_goals (refine wpAny_ready (rs:=[4]) ?_ (by simp) ?_;(focus (decide +kernel));refine AllReady.cons rfl (fun K hK => ?_) AllReady.nil;go_simp;refine hK _ _ ?_;clear hK K)
     all_goals (refine wpAny_ready (rs:=[5]) ?_ (by simp) ?_;(focus (decide +kernel));refine AllReady.cons rfl (fun K hK => ?_) AllReady.nil;go_simp;go_at_call 24;(try rw [← hwd]);(with_reducible refine (HST.out _ HNN.out).mono ?_);rintro e wn ⟨rfl,hf⟩;have HN:=hid hf;obtain ⟨z2,zl,z3,z4,z5,v0,v1,v2,v3,v4,v5,v6,v7,vl⟩:=HCE.out wn hf;clear hf;refine hK _ _ ?_;clear hK K)
     all_goals (refine wpAny_ready (rs:=[6]) ?_ (by simp) ?_;(focus (decide +kernel));refine AllReady.cons rfl (fun K hK => ?_) AllReady.nil;go_simp;refine hK _ _ ?_;clear hK K)
     all_goals (refine wpAny_ready (rs:=[7]) ?_ (by simp) ?_;(focus (decide +kernel));refine AllReady.cons rfl (fun K hK => ?_) AllReady.nil;go_simp;refine hK _ _ ?_;clear hK K)
     all_goals (refine wpAny_take (i:=9) (v:=undef) rfl ?_ ?_ ?_ (fun _ _ _ h => h) (Or.inr ⟨by rfl,rfl⟩) ?_;(focus (decide +kernel));(focus (decide +kernel));(focus (decide +kernel)))
     all_goals (refine wpAny_take (i:=10) (v:=undef) rfl ?_ ?_ ?_ (fun _ _ _ h => h) (Or.inr ⟨by rfl,rfl⟩) ?_;(focus (decide +kernel));(focus (decide +kernel));(focus (decide +kernel)))
     all_goals (refine wpAny_take (i:=12) (v:=undef) rfl ?_ ?_ ?_ (fun _ _ _ h => h) (Or.inr ⟨by rfl,rfl⟩) ?_;(focus (decide +kernel));(focus (decide +kernel));(focus (decide +kernel)))
     all_goals (refine wpAny_take (i:=15) (v:=undef) rfl ?_ ?_ ?_ (fun _ _ _ h => h) (Or.inr ⟨by rfl,rfl⟩) ?_;(focus (decide +kernel));(focus (decide +kernel));(focus (decide +kernel)))
     all_goals (refine wpAny_take (i:=16) (v:=undef) rfl ?_ ?_ ?_ (fun _ _ _ h => h) (Or.inr ⟨by rfl,rfl⟩) ?_;(focus (decide +kernel));(focus (decide +kernel));(focus (decide +kernel)))
     all_goals (refine wpAny_take (i:=8) (v:=undef) rfl ?_ ?_ ?_ (fun _ _ _ h => h) (Or.inr ⟨by rfl,rfl⟩) ?_;(focus (decide +kernel));(focus (decide +kernel));(focus (decide +kernel)))
     all_goals (refine wpAny_ready (rs:=[11]) ?_ (by simp) ?_;(focus (decide +kernel));refine AllReady.cons rfl (fun K hK => ?_) AllReady.nil;go_simp;refine hK _ _ ?_;clear hK K)
     all_goals (refine wpAny_ready (rs:=[13]) ?_ (by simp) ?_;(focus (decide +kernel));refine AllReady.cons rfl (fun K hK => ?_) AllReady.nil;go_simp;refine hK _ _ ?_;clear hK K)
     all_goals (refine wpAny_ready (rs:=[14]) ?_ (by simp) ?_;(focus (decide +kernel));refine AllReady.cons rfl (fun K hK => ?_) AllReady.nil;go_simp;refine hK _ _ ?_;clear hK K)
     all_goals (refine wpAny_ready (rs:=[17]) ?_ (by simp) ?_;(focus (decide +kernel));refine AllReady.cons rfl (fun K hK => ?_) AllReady.nil;go_simp;refine hK _ _ ?_;clear hK K)
     all_goals (refine wpAny_ready (rs:=[18]) ?_ (by simp) ?_;(focus (decide +kernel));refine AllReady.cons rfl (fun K hK => ?_) AllReady.nil;go_simp;refine hK _ _ ?_;clear hK K)
     all_goals (refine wpAny_ready (rs:=[19]) ?_ (by simp) ?_;(focus (decide +kernel));refine AllReady.cons rfl (fun K hK => ?_) AllReady.nil;go_simp;refine hK _ _ ?_;clear hK K)
     all_goals (refine wpAny_done (by decide +kernel) ?_ _)
     all_goals (try clear g0 g1 g2 t2 tl u0 u1 u2 u3 u4 u5 u6 u7 ul)
     all_goals (try go_wp2_with fail)
     all_goals
      go_ret
      exact ⟨by rw [HQ.out];rfl,HFW.out.trans HN.out⟩
    | true =>
     have HST : Hid (∀ wx,Fr [] wd wx → Calls Try.prog 24 #[.agg #[.int .i64 (kd x),.int .i64 (nm x),.slice q1 (ar x).length d1]] wx (LookP true wx)):=hid (fun wx hf => by
      have h1:=rstored_any x _ wx _ (KX.out wx hf)
      rwa [hst] at h1)
     have HFM : Hid (∀ wx,Fr [] wd wx → Calls Try.prog 58 #[.agg #[.slice p0 n0 c0,.slice p1 n1 c1,.slice pd ds.length cd,.slice p3 n3 c3,.slice p4 n4 c4,.slice p5 n5 c5,.slice p6 n6 c6,.int .i64 m],.int .i64 p,.agg #[.int .i64 (kd x),.int .i64 (nm x),.slice q1 (ar x).length d1],.int .i64 (n - 1)] wx (LookP (G x) wx)):=hid (fun wx hf => IH.out x HMX.out _ wx (HFW.out.trans hf) (KX.out wx hf))
     have HS:=hid hst
     clear hst
     cases hgx : G x with
     | false =>
      rw [hgx] at HFM
      have HQ : Hid (l.all (fun a => Un.stored a && G a) = false):=hid (by
       cases hq : l.all (fun a => Un.stored a && G a) with
       | false => rfl
       | true => have h1:=(List.all_eq_true.1 hq) x HMX.out;rw [hgx,HS.out] at h1;cases h1)
      clear hgx
      go_wp2_with fail
      refine wp_region_any (by kernel_rfl) ?_
      change wpAny _ _ _ _ _ _ _ (World.drew _)
      try rw [← hwd]
      obtain ⟨z2,zl,z3,z4,z5,v0,v1,v2,v3,v4,v5,v6,v7,vl⟩:=HCE.out wd HNN.out
      all_goals (refine wpAny_take (i:=2) (v:=.int .i64 j) rfl ?_ ?_ ?_ (fun _ _ _ h => h) (Or.inl ⟨by rfl,?_⟩) ?_;(focus (decide +kernel));(focus (decide +kernel));(focus (decide +kernel));(focus (intro w;go_simp;first | done | with_reducible rfl | exact IntWalk.i64_in _ (by omega))))
      all_goals (refine wpAny_ready (rs:=[0]) ?_ (by simp) ?_;(focus (decide +kernel));refine AllReady.cons rfl (fun K hK => ?_) AllReady.nil;go_simp;refine hK _ _ ?_;clear hK K)
      all_goals (refine wpAny_ready (rs:=[1]) ?_ (by simp) ?_;(focus (decide +kernel));refine AllReady.cons rfl (fun K hK => ?_) AllReady.nil;go_simp;refine hK _ _ ?_;clear hK K)
      all_goals (refine wpAny_ready (rs:=[3]) ?_ (by simp) ?_;(focus (decide +kernel));refine AllReady.cons rfl (fun K hK => ?_) AllReady.nil;go_simp;refine hK _ _ ?_;clear hK K)
      all_goals (refine wpAny_ready (rs:=[4]) ?_ (by simp) ?_;(focus (decide +kernel));refine AllReady.cons rfl (fun K hK => ?_) AllReady.nil;go_simp;refine hK _ _ ?_;clear hK K)
      all_goals (refine wpAny_ready (rs:=[5]) ?_ (by simp) ?_;(focus (decide +kernel));refine AllReady.cons rfl (fun K hK => ?_) AllReady.nil;go_simp;go_at_call 24;(try rw [← hwd]);(with_reducible refine (HST.out _ HNN.out).mono ?_);rintro e wn ⟨rfl,hf⟩;have HN:=hid hf;obtain ⟨z2,zl,z3,z4,z5,v0,v1,v2,v3,v4,v5,v6,v7,vl⟩:=HCE.out wn hf;clear hf;refine hK _ _ ?_;clear hK K)
      all_goals (refine wpAny_ready (rs:=[6]) ?_ (by simp) ?_;(focus (decide +kernel));refine AllReady.cons rfl (fun K hK => ?_) AllReady.nil;go_simp;refine hK _ _ ?_;clear hK K)
      all_goals (refine wpAny_ready (rs:=[7]) ?_ (by simp) ?_;(focus (decide +kernel));refine AllReady.cons rfl (fun K hK => ?_) AllReady.nil;go_simp;refine hK _ _ ?_;clear hK K)
      all_goals (refine wpAny_take (i:=9) (v:=.int .i64 p) rfl ?_ ?_ ?_ (fun _ _ _ h => h) (Or.inl ⟨by rfl,?_⟩) ?_;(focus (decide +kernel));(focus (decide +kernel));(focus (decide +kernel));(focus (intro w;go_simp;first | done | with_reducible rfl | exact IntWalk.i64_in _ (by omega))))
      all_goals (refine wpAny_take (i:=10) (v:=.pointer (some ⟨T0 + 1,2,none⟩)) rfl ?_ ?_ ?_ (fun _ _ _ h => h) (Or.inl ⟨by rfl,?_⟩) ?_;(focus (decide +kernel));(focus (decide +kernel));(focus (decide +kernel));(focus (intro w;go_simp;first | done | with_reducible rfl | exact IntWalk.i64_in _ (by omega))))
      all_goals (refine wpAny_take (i:=12) (v:=.int .i64 j) rfl ?_ ?_ ?_ (fun _ _ _ h => h) (Or.inl ⟨by rfl,?_⟩) ?_;(focus (decide +kernel));(focus (decide +kernel));(focus (decide +kernel));(focus (intro w;go_simp;first | done | with_reducible rfl | exact IntWalk.i64_in _ (by omega))))
      all_goals (refine wpAny_take (i:=15) (v:=.int .i64 n) rfl ?_ ?_ ?_ (fun _ _ _ h => h) (Or.inl ⟨by rfl,?_⟩) ?_;(focus (decide +kernel));(focus (decide +kernel));(focus (decide +kernel));(focus (intro w;go_simp;first | done | with_reducible rfl | exact IntWalk.i64_in _ (by omega))))
      all_goals (refine wpAny_take (i:=16) (v:=.int .i64 (n - 1)) rfl ?_ ?_ ?_ (fun _ _ _ h => h) (Or.inl ⟨by rfl,?_⟩) ?_;(focus (decide +kernel));(focus (decide +kernel));(focus (decide +kernel));(focus (intro w;go_simp;first | done | with_reducible rfl | exact IntWalk.i64_in _ (by omega))))
      iterate 4 (all_goals (first | (refine wpAny_ready (rs:=[8,11]) ?_ (by simp) ?_;(focus (decide +kernel));refine AllReady.cons rfl (fun K hK => ?_) (AllReady.cons rfl (fun K hK => ?_) AllReady.nil) <;> (go_simp;refine hK _ _ ?_;clear hK K)) | (refine wpAny_ready (rs:=[11]) ?_ (by simp) ?_;(focus (decide +kernel));refine AllReady.cons rfl (fun K hK => ?_) AllReady.nil;go_simp;refine hK _ _ ?_;clear hK K) | (refine wpAny_ready (rs:=[8,13]) ?_ (by simp) ?_;(focus (decide +kernel));refine AllReady.cons rfl (fun K hK => ?_) (AllReady.cons rfl (fun K hK => ?_) AllReady.nil) <;> (go_simp;refine hK _ _ ?_;clear hK K)) | (refine wpAny_ready (rs:=[13]) ?_ (by simp) ?_;(focus (decide +kernel));refine AllReady.cons rfl (fun K hK => ?_) AllReady.nil;go_simp;refine hK _ _ ?_;clear hK K) | (refine wpAny_ready (rs:=[8,14]) ?_ (by simp) ?_;(focus (decide +kernel));refine AllReady.cons rfl (fun K hK => ?_) (AllReady.cons rfl (fun K hK => ?_) AllReady.nil) <;> (go_simp;refine hK _ _ ?_;clear hK K)) | (refine wpAny_ready (rs:=[14]) ?_ (by simp) ?_;(focus (decide +kernel));refine AllReady.cons rfl (fun K hK => ?_) AllReady.nil;go_simp;refine hK _ _ ?_;clear hK K) | (refine wpAny_ready (rs:=[8]) ?_ (by simp) ?_;(focus (decide +kernel));refine AllReady.cons rfl (fun K hK => ?_) AllReady.nil;go_simp;refine hK _ _ ?_;clear hK K)))
      all_goals (refine wpAny_ready (rs:=[17]) ?_ (by simp) ?_;(focus (decide +kernel));refine AllReady.cons rfl (fun K hK => ?_) AllReady.nil;go_simp;go_at_call 58;(with_reducible refine (HFM.out _ HN.out).mono ?_);rintro e wm ⟨rfl,hf⟩;have HM:=hid (HN.out.trans hf);clear hf;refine hK _ _ ?_;clear hK K)
      all_goals (refine wpAny_ready (rs:=[18]) ?_ (by simp) ?_;(focus (decide +kernel));refine AllReady.cons rfl (fun K hK => ?_) AllReady.nil;go_simp;refine hK _ _ ?_;clear hK K)
      all_goals (refine wpAny_ready (rs:=[19]) ?_ (by simp) ?_;(focus (decide +kernel));refine AllReady.cons rfl (fun K hK => ?_) AllReady.nil;go_simp;refine hK _ _ ?_;clear hK K)
      all_goals (refine wpAny_done (by decide +kernel) ?_ _)
      all_goals (try clear g0 g1 g2 t2 tl u0 u1 u2 u3 u4 u5 u6 u7 ul)
      all_goals (try go_wp2_with fail)
      all_goals
       go_ret
       exact ⟨by rw [HQ.out];rfl,HFW.out.trans HM.out⟩
     | true =>
      rw [hgx] at HFM
      have HNX : Hid ((l.take (j + 1)).all (fun a => Un.stored a && G a) = true):=hid (by rw [HTK.out,List.all_append,HG.out];simp [HS.out,hgx])
      clear hgx
      go_wp2_with fail
      refine wp_region_any (by kernel_rfl) ?_
      change wpAny _ _ _ _ _ _ _ (World.drew _)
      try rw [← hwd]
      obtain ⟨z2,zl,z3,z4,z5,v0,v1,v2,v3,v4,v5,v6,v7,vl⟩:=HCE.out wd HNN.out
      all_goals (refine wpAny_take (i:=2) (v:=.int .i64 j) rfl ?_ ?_ ?_ (fun _ _ _ h => h) (Or.inl ⟨by rfl,?_⟩) ?_;(focus (decide +kernel));(focus (decide +kernel));(focus (decide +kernel));(focus (intro w;go_simp;first | done | with_reducible rfl | exact IntWalk.i64_in _ (by omega))))
      all_goals (refine wpAny_ready (rs:=[0]) ?_ (by simp) ?_;(focus (decide +kernel));refine AllReady.cons rfl (fun K hK => ?_) AllReady.nil;go_simp;refine hK _ _ ?_;clear hK K)
      all_goals (refine wpAny_ready (rs:=[1]) ?_ (by simp) ?_;(focus (decide +kernel));refine AllReady.cons rfl (fun K hK => ?_) AllReady.nil;go_simp;refine hK _ _ ?_;clear hK K)
      all_goals (refine wpAny_ready (rs:=[3]) ?_ (by simp) ?_;(focus (decide +kernel));refine AllReady.cons rfl (fun K hK => ?_) AllReady.nil;go_simp;refine hK _ _ ?_;clear hK K)
      all_goals (refine wpAny_ready (rs:=[4]) ?_ (by simp) ?_;(focus (decide +kernel));refine AllReady.cons rfl (fun K hK => ?_) AllReady.nil;go_simp;refine hK _ _ ?_;clear hK K)
      all_goals (refine wpAny_ready (rs:=[5]) ?_ (by simp) ?_;(focus (decide +kernel));refine AllReady.cons rfl (fun K hK => ?_) AllReady.nil;go_simp;go_at_call 24;(try rw [← hwd]);(with_reducible refine (HST.out _ HNN.out).mono ?_);rintro e wn ⟨rfl,hf⟩;have HN:=hid hf;obtain ⟨z2,zl,z3,z4,z5,v0,v1,v2,v3,v4,v5,v6,v7,vl⟩:=HCE.out wn hf;clear hf;refine hK _ _ ?_;clear hK K)
      all_goals (refine wpAny_ready (rs:=[6]) ?_ (by simp) ?_;(focus (decide +kernel));refine AllReady.cons rfl (fun K hK => ?_) AllReady.nil;go_simp;refine hK _ _ ?_;clear hK K)
      all_goals (refine wpAny_ready (rs:=[7]) ?_ (by simp) ?_;(focus (decide +kernel));refine AllReady.cons rfl (fun K hK => ?_) AllReady.nil;go_simp;refine hK _ _ ?_;clear hK K)
      all_goals (refine wpAny_take (i:=9) (v:=.int .i64 p) rfl ?_ ?_ ?_ (fun _ _ _ h => h) (Or.inl ⟨by rfl,?_⟩) ?_;(focus (decide +kernel));(focus (decide +kernel));(focus (decide +kernel));(focus (intro w;go_simp;first | done | with_reducible rfl | exact IntWalk.i64_in _ (by omega))))
      all_goals (refine wpAny_take (i:=10) (v:=.pointer (some ⟨T0 + 1,2,none⟩)) rfl ?_ ?_ ?_ (fun _ _ _ h => h) (Or.inl ⟨by rfl,?_⟩) ?_;(focus (decide +kernel));(focus (decide +kernel));(focus (decide +kernel));(focus (intro w;go_simp;first | done | with_reducible rfl | exact IntWalk.i64_in _ (by omega))))
      all_goals (refine wpAny_take (i:=12) (v:=.int .i64 j) rfl ?_ ?_ ?_ (fun _ _ _ h => h) (Or.inl ⟨by rfl,?_⟩) ?_;(focus (decide +kernel));(focus (decide +kernel));(focus (decide +kernel));(focus (intro w;go_simp;first | done | with_reducible rfl | exact IntWalk.i64_in _ (by omega))))
      all_goals (refine wpAny_take (i:=15) (v:=.int .i64 n) rfl ?_ ?_ ?_ (fun _ _ _ h => h) (Or.inl ⟨by rfl,?_⟩) ?_;(focus (decide +kernel));(focus (decide +kernel));(focus (decide +kernel));(focus (intro w;go_simp;first | done | with_reducible rfl | exact IntWalk.i64_in _ (by omega))))
      all_goals (refine wpAny_take (i:=16) (v:=.int .i64 (n - 1)) rfl ?_ ?_ ?_ (fun _ _ _ h => h) (Or.inl ⟨by rfl,?_⟩) ?_;(focus (decide +kernel));(focus (decide +kernel));(focus (decide +kernel));(focus (intro w;go_simp;first | done | with_reducible rfl | exact IntWalk.i64_in _ (by omega))))
      iterate 4 (all_goals (first | (refine wpAny_ready (rs:=[8,11]) ?_ (by simp) ?_;(focus (decide +kernel));refine AllReady.cons rfl (fun K hK => ?_) (AllReady.cons rfl (fun K hK => ?_) AllReady.nil) <;> (go_simp;refine hK _ _ ?_;clear hK K)) | (refine wpAny_ready (rs:=[11]) ?_ (by simp) ?_;(focus (decide +kernel));refine AllReady.cons rfl (fun K hK => ?_) AllReady.nil;go_simp;refine hK _ _ ?_;clear hK K) | (refine wpAny_ready (rs:=[8,13]) ?_ (by simp) ?_;(focus (decide +kernel));refine AllReady.cons rfl (fun K hK => ?_) (AllReady.cons rfl (fun K hK => ?_) AllReady.nil) <;> (go_simp;refine hK _ _ ?_;clear hK K)) | (refine wpAny_ready (rs:=[13]) ?_ (by simp) ?_;(focus (decide +kernel));refine AllReady.cons rfl (fun K hK => ?_) AllReady.nil;go_simp;refine hK _ _ ?_;clear hK K) | (refine wpAny_ready (rs:=[8,14]) ?_ (by simp) ?_;(focus (decide +kernel));refine AllReady.cons rfl (fun K hK => ?_) (AllReady.cons rfl (fun K hK => ?_) AllReady.nil) <;> (go_simp;refine hK _ _ ?_;clear hK K)) | (refine wpAny_ready (rs:=[14]) ?_ (by simp) ?_;(focus (decide +kernel));refine AllReady.cons rfl (fun K hK => ?_) AllReady.nil;go_simp;refine hK _ _ ?_;clear hK K) | (refine wpAny_ready (rs:=[8]) ?_ (by simp) ?_;(focus (decide +kernel));refine AllReady.cons rfl (fun K hK => ?_) AllReady.nil;go_simp;refine hK _ _ ?_;clear hK K)))
      all_goals (refine wpAny_ready (rs:=[17]) ?_ (by simp) ?_;(focus (decide +kernel));refine AllReady.cons rfl (fun K hK => ?_) AllReady.nil;go_simp;go_at_call 58;(with_reducible refine (HFM.out _ HN.out).mono ?_);rintro e wm ⟨rfl,hf⟩;have HM:=hid (HN.out.trans hf);clear hf;refine hK _ _ ?_;clear hK K)
      all_goals (refine wpAny_ready (rs:=[18]) ?_ (by simp) ?_;(focus (decide +kernel));refine AllReady.cons rfl (fun K hK => ?_) AllReady.nil;go_simp;refine hK _ _ ?_;clear hK K)
      all_goals (refine wpAny_ready (rs:=[19]) ?_ (by simp) ?_;(focus (decide +kernel));refine AllReady.cons rfl (fun K hK => ?_) AllReady.nil;go_simp;refine hK _ _ ?_;clear hK K)
      all_goals (refine wpAny_done (by decide +kernel) ?_ _)
      all_goals (try clear g0 g1 g2 t2 tl u0 u1 u2 u3 u4 u5 u6 u7 ul)
      all_goals (try go_wp2_with fail)
      all_goals
       have HFX:=hid (HFW.out.trans HM.out)
       have HPX:=hid (HPD.out.keep HM.out (by simp))
       have HTX:=hid (HTD.out.keep HM.out (by simp))
       go_roundw
       case rel => exact ⟨j + 1,by go_num,by omega,HNX,HFX,HPX,HTX⟩
       case measure => simp [RowKit.intOf];omega
   ·have hd2 : decide ((j : Int) < (z : Int)) = false:=decide_eq_false (by omega)
    have hd3 : decide (j < z) = false:=decide_eq_false hlt
    obtain rfl : j = z:=by omega
    have HQ : Hid (l.all (fun a => Un.stored a && G a) = true):=hid (by
     have h1:=HG.out
     rwa [List.take_of_length_le (by rw [HLZ.out];exact Nat.le_refl _)] at h1)
    go_wp2_with fail
    go_ret
    exact ⟨by rw [HQ.out];rfl,HFR.out⟩
end Go.Proofs.Ytcdlnhfgehhkcaa
