/- part of the proof -/
import Derived.Test.YtcdlnhfgehhkcaaQ00
import Derived.Test.YtcdlnhfgehhkcaaQ49
import Derived.Test.YtcdlnhfgehhkcaaQ46
import Derived.Test.YtcdlnhfgehhkcaaQ26
import Derived.Test.YtcdlnhfgehhkcaaQ28
set_option linter.unusedVariables false
set_option linter.unusedSimpArgs false
set_option linter.unusedSectionVars false
namespace Go.Proofs.Ytcdlnhfgehhkcaa
open Go.RowKit Go.Lib
open Un (kd nm ar size small)
theorem merge_leaves {P Q : Prop} (f : Q → P) (q : Q) : P:=f q
theorem wpAny_redo {P : Program} {md : Region.Mode} {ops : Array Oper} {Q : Exit → Act → World → Prop} {fuel fuel' : Nat} {d d' : Array Bool} {a : Act} {w : World} (hf : fuel = fuel') (h : d = d') (H : wpAny P md ops Q fuel' d' a w) : wpAny P md ops Q fuel d a w:=by subst hf;subst h;exact H
set_option maxRecDepth 100000 in
set_option maxHeartbeats 12800000 in
theorem reference_any (l : List Ty) (a b : Ty) (p : Int) (ds : List Int) (vl : Value) (es bs ps : List Value) (w : World) (hl : TysV w (fun _ => True) l vl) (ha : TyV w (fun _ => True) a es) (hb : TyV w (fun _ => True) b bs) (hp : ProgV w (fun _ => True) ds ps) (hpar : ∀ i ∈ Un.pars a,(Lit.int .i64 i).wf = true) :
  Calls Try.prog 3 #[vl,.agg es.toArray,.agg bs.toArray,.int .i64 p,.agg ps.toArray] w (LookP true w):=by
 have HP:=hid hp
 obtain ⟨p0,n0,c0,p1,n1,c1,dv,p3,n3,c3,p4,n4,c4,p5,n5,c5,p6,n6,c6,m,rfl,hd⟩:=hp
 obtain ⟨pd,cd,rfl⟩:=hd.shape
 obtain ⟨pl,kl,rfl⟩:=hl.shape
 obtain ⟨pa,ca,rfl,_⟩:=ha.shape
 obtain ⟨pb,cb,rfl,_⟩:=hb.shape
 have hll:=hl.len
 have hdl:=(InN.slLen hd : ds.length ≤ maxLen)
 unfold maxLen at hll hdl
 have HL:=hid hl
 have HA:=hid ha
 have HB:=hid hb
 have HPAR:=hid hpar
 obtain ⟨n,hn⟩ : ∃ n,n = l.length:=⟨_,rfl⟩
 rw [← hn] at hll HL ⊢
 have HN:=hid hn
 clear hl ha hb hpar hd hn
 go_enter Try.func3,Try.ntmps3
 go_wp2_with fail
 obtain ⟨w1,hw1⟩ : ∃ w1,w1 = ((w.alloc (.cells #[.int .i64 (kd a),.int .i64 (nm a),.slice pa (ar a).length ca] 24)).alloc (.cells #[.int .i64 (kd b),.int .i64 (nm b),.slice pb (ar b).length cb] 24)).alloc (.cells #[.slice p0 n0 c0,.slice p1 n1 c1,.slice pd ds.length cd,.slice p3 n3 c3,.slice p4 n4 c4,.slice p5 n5 c5,.slice p6 n6 c6,.int .i64 m] 32):=⟨_,rfl⟩
 have HF1 : Hid (Fr [] w w1):=hid (by rw [hw1];exact (((Fr.refl _ _).alloc _).alloc _).alloc _)
 have HBA1 : Hid (Blk w1 w.heap.size 24 #[.int .i64 (kd a),.int .i64 (nm a),.slice pa (ar a).length ca]):=hid (by rw [hw1];exact ((Blk.new _ _ _).alloc _).alloc _)
 have HBB1 : Hid (Blk w1 (w.heap.size + 1) 24 #[.int .i64 (kd b),.int .i64 (nm b),.slice pb (ar b).length cb]):=hid (by rw [hw1];exact (Blk.new_at (by simp)).alloc _)
 have HBP1 : Hid (Blk w1 (w.heap.size + 1 + 1) 32 #[.slice p0 n0 c0,.slice p1 n1 c1,.slice pd ds.length cd,.slice p3 n3 c3,.slice p4 n4 c4,.slice p5 n5 c5,.slice p6 n6 c6,.int .i64 m]):=hid (by rw [hw1];exact Blk.new_at (by simp))
 rw [← hw1]
 clear hw1
 refine (head_any w1).mono ?_
 rintro e w2 ⟨rfl,hf⟩
 have HF2:=hid (HF1.out.trans hf)
 have HBA2:=hid (HBA1.out.keep hf (by simp))
 have HBB2:=hid (HBB1.out.keep hf (by simp))
 have HBP2:=hid (HBP1.out.keep hf (by simp))
 clear hf HBA1 HBB1 HBP1 HF1
 have HK : Hid (∀ wx,Fr [] w2 wx → wx.cell? ⟨w.heap.size,0,none⟩ = some (.int .i64 (kd a)) ∧ wx.cell? ⟨w.heap.size,1,none⟩ = some (.int .i64 (nm a)) ∧ wx.cell? ⟨w.heap.size,2,none⟩ = some (.slice pa (ar a).length ca) ∧ w.heap.size < wx.heap.size ∧ wx.cell? ⟨w.heap.size + 1,0,none⟩ = some (.int .i64 (kd b)) ∧ wx.cell? ⟨w.heap.size + 1,1,none⟩ = some (.int .i64 (nm b)) ∧ wx.cell? ⟨w.heap.size + 1,2,none⟩ = some (.slice pb (ar b).length cb) ∧ w.heap.size + 1 < wx.heap.size ∧ wx.cell? ⟨w.heap.size + 1 + 1,0,none⟩ = some (.slice p0 n0 c0) ∧ wx.cell? ⟨w.heap.size + 1 + 1,1,none⟩ = some (.slice p1 n1 c1) ∧ wx.cell? ⟨w.heap.size + 1 + 1,2,none⟩ = some (.slice pd ds.length cd) ∧ wx.cell? ⟨w.heap.size + 1 + 1,3,none⟩ = some (.slice p3 n3 c3) ∧ wx.cell? ⟨w.heap.size + 1 + 1,4,none⟩ = some (.slice p4 n4 c4) ∧ wx.cell? ⟨w.heap.size + 1 + 1,5,none⟩ = some (.slice p5 n5 c5) ∧ wx.cell? ⟨w.heap.size + 1 + 1,6,none⟩ = some (.slice p6 n6 c6) ∧ wx.cell? ⟨w.heap.size + 1 + 1,7,none⟩ = some (.int .i64 m) ∧ w.heap.size + 1 + 1 < wx.heap.size):=hid (fun wx hf => by
  have h1:=HBA2.out.keep hf (by simp)
  have h2:=HBB2.out.keep hf (by simp)
  have h3:=HBP2.out.keep hf (by simp)
  exact ⟨h1.cell 0,h1.cell 1,h1.cell 2,h1.lt,h2.cell 0,h2.cell 1,h2.cell 2,h2.lt,h3.cell 0,h3.cell 1,h3.cell 2,h3.cell 3,h3.cell 4,h3.cell 5,h3.cell 6,h3.cell 7,h3.lt⟩)
 clear HBA2 HBB2 HBP2
 have HA0 : Hid (∀ wx,Fr [] w2 wx → TyV wx (fun _ => True) a [.int .i64 (kd a),.int .i64 (nm a),.slice pa (ar a).length ca]):=hid (fun wx hf => HA.out.keep0 (HF2.out.trans hf))
 have HB0 : Hid (∀ wx,Fr [] w2 wx → TyV wx (fun _ => True) b [.int .i64 (kd b),.int .i64 (nm b),.slice pb (ar b).length cb]):=hid (fun wx hf => HB.out.keep0 (HF2.out.trans hf))
 have HL0 : Hid (∀ wx,Fr [] w2 wx → TysV wx (fun _ => True) l (.slice pl n kl)):=hid (fun wx hf => HL.out.keep0 (HF2.out.trans hf))
 have HP0 : Hid (∀ wx,Fr [] w2 wx → ProgV wx (fun _ => True) ds [.slice p0 n0 c0,.slice p1 n1 c1,.slice pd ds.length cd,.slice p3 n3 c3,.slice p4 n4 c4,.slice p5 n5 c5,.slice p6 n6 c6,.int .i64 m]):=hid (fun wx hf => HP.out.keep0 (HF2.out.trans hf))
 have HX : Hid (Fr [] w2 w2):=hid (Fr.refl _ _)
 obtain ⟨A,hA⟩ : ∃ A,A = w.heap.size:=⟨_,rfl⟩
 rw [← hA] at HK ⊢
 clear hA HA HB HL HP
 go_wp2_with fail
 refine (small_any _ l _ w2 (HL0.out _ HX.out)).mono ?_
 rintro e wn ⟨rfl,hf⟩
 replace HX:=hid (HX.out.trans hf)
 clear hf
 cases hss : small l with
 | false =>
  obtain ⟨x0,x1,x2,xl,x3,x4,x5,xm,y0,y1,y2,y3,y4,y5,y6,y7,yl⟩:=HK.out wn HX.out
  go_wp2_with fail
  go_ret
  exact ⟨rfl,HF2.out.trans HX.out⟩
 | true =>
 have HSZ : Hid (∀ t ∈ l,size t ≤ 30):=hid (Un.small_size hss).1
 have HSL : Hid (l.length ≤ 8):=hid (Un.small_size hss).2
 clear hss
 obtain ⟨x0,x1,x2,xl,x3,x4,x5,xm,y0,y1,y2,y3,y4,y5,y6,y7,yl⟩:=HK.out wn HX.out
 go_wp2_with fail
 obtain ⟨wm,hwm⟩ : ∃ x,x = wn.alloc (.cells #[.int .i64 (kd a),.int .i64 (nm a),.slice pa (ar a).length ca,.int .i64 (kd b),.int .i64 (nm b),.slice pb (ar b).length cb] 24):=⟨_,rfl⟩
 have HFM : Hid (Fr [] wn wm):=hid (by rw [hwm];exact (Fr.refl [] _).alloc _)
 have hlt : TysV wm (fun _ => True) [a,b] (.slice (some ⟨wn.heap.size,0,none⟩) 2 2):=newTys (l:=[a,b]) (by simp) trivial (by rw [hwm];exact Blk.new _ _ _) (InN.app (HA0.out wm (HX.out.trans HFM.out)) (InN.app (cs:=[.int .i64 (kd b),.int .i64 (nm b),.slice pb (ar b).length cb]) (ds:=[]) (HB0.out wm (HX.out.trans HFM.out)) (InN.mk_nil _ _)))
 rw [← hwm]
 clear hwm
 clear x0 x1 x2 xl x3 x4 x5 xm y0 y1 y2 y3 y4 y5 y6 y7 yl
 replace HX:=hid (HX.out.trans HFM.out)
 refine (small_any _ [a,b] _ wm hlt).mono ?_
 rintro e wn ⟨rfl,hf⟩
 replace HX:=hid (HX.out.trans hf)
 clear hf hlt HFM
 cases hsab : small [a,b] with
 | false =>
  obtain ⟨x0,x1,x2,xl,x3,x4,x5,xm,y0,y1,y2,y3,y4,y5,y6,y7,yl⟩:=HK.out wn HX.out
  go_wp2_with fail
  go_ret
  exact ⟨rfl,HF2.out.trans HX.out⟩
 | true =>
 have HSA : Hid (size a ≤ 30):=hid ((Un.small_size hsab).1 a (by simp))
 have HSB : Hid (size b ≤ 30):=hid ((Un.small_size hsab).1 b (by simp))
 clear hsab
 by_cases h20 : 20 < ds.length
 ·have he1 : decide (20 < ds.length) = true:=decide_eq_true h20
  have he2 : decide ((20 : Int) < (ds.length : Int)) = true:=decide_eq_true (by omega)
  obtain ⟨x0,x1,x2,xl,x3,x4,x5,xm,y0,y1,y2,y3,y4,y5,y6,y7,yl⟩:=HK.out wn HX.out
  go_wp2_with fail
  go_ret
  exact ⟨rfl,HF2.out.trans HX.out⟩
 have he1 : decide (20 < ds.length) = false:=decide_eq_false h20
 have he2 : decide ((20 : Int) < (ds.length : Int)) = false:=decide_eq_false (by omega)
 clear h20
 obtain ⟨x0,x1,x2,xl,x3,x4,x5,xm,y0,y1,y2,y3,y4,y5,y6,y7,yl⟩:=HK.out wn HX.out
 go_wp2_with fail
 obtain ⟨wm,hwm⟩ : ∃ x,x = wn.alloc (.cells #[.int .i64 (kd a),.int .i64 (nm a),.slice pa (ar a).length ca,.int .i64 (kd b),.int .i64 (nm b),.slice pb (ar b).length cb] 24):=⟨_,rfl⟩
 have HFM : Hid (Fr [] wn wm):=hid (by rw [hwm];exact (Fr.refl [] _).alloc _)
 have hlt : TysV wm (fun _ => True) [a,b] (.slice (some ⟨wn.heap.size,0,none⟩) 2 2):=newTys (l:=[a,b]) (by simp) trivial (by rw [hwm];exact Blk.new _ _ _) (InN.app (HA0.out wm (HX.out.trans HFM.out)) (InN.app (cs:=[.int .i64 (kd b),.int .i64 (nm b),.slice pb (ar b).length cb]) (ds:=[]) (HB0.out wm (HX.out.trans HFM.out)) (InN.mk_nil _ _)))
 rw [← hwm]
 clear hwm
 clear x0 x1 x2 xl x3 x4 x5 xm y0 y1 y2 y3 y4 y5 y6 y7 yl
 replace HX:=hid (HX.out.trans HFM.out)
 refine (light_any _ l [a,b] _ _ wm (HL0.out wm HX.out) hlt).mono ?_
 rintro e wn ⟨rfl,hf⟩
 replace HX:=hid (HX.out.trans hf)
 clear hf hlt HFM
 cases hli : Un.lightB l [a,b] with
 | false =>
  obtain ⟨x0,x1,x2,xl,x3,x4,x5,xm,y0,y1,y2,y3,y4,y5,y6,y7,yl⟩:=HK.out wn HX.out
  go_wp2_with fail
  go_ret
  exact ⟨rfl,HF2.out.trans HX.out⟩
 | true =>
 clear hli
 obtain ⟨lu,cu,hu1,hu2⟩:=unify_ans l a b HSZ.out HSL.out HSA.out HSB.out
 obtain ⟨lm,bm,hm1,hm2⟩:=match_ans a b p HSA.out HSB.out HPAR.out
 obtain ⟨rs,hs1,hs2⟩:=subst_both l a HSZ.out HSA.out
 obtain ⟨ra,ha1,ha2⟩:=apply_both l a HSZ.out HSL.out HSA.out
 have CU1:=hid hu1
 have CU2:=hid hu2
 have CM1:=hid hm1
 have CM2:=hid hm2
 have CS1:=hid hs1
 have CS2:=hid hs2
 have CA1:=hid ha1
 have CA2:=hid ha2
 clear hu1 hu2 hm1 hm2 hs1 hs2 ha1 ha2
 obtain ⟨x0,x1,x2,xl,x3,x4,x5,xm,y0,y1,y2,y3,y4,y5,y6,y7,yl⟩:=HK.out wn HX.out
 go_wp2_with fail
 clear x0 x1 x2 xl x3 x4 x5 xm y0 y1 y2 y3 y4 y5 y6 y7 yl
 refine (CU1.out _ _ _ wn (HL0.out wn HX.out) (HA0.out wn HX.out) (HB0.out wn HX.out)).mono ?_
 rintro e wn ⟨hf,q1,k1,rfl,hr⟩
 replace HX:=hid (HX.out.trans hf)
 have HR1:=hid hr
 clear hf hr
 obtain ⟨x0,x1,x2,xl,x3,x4,x5,xm,y0,y1,y2,y3,y4,y5,y6,y7,yl⟩:=HK.out wn HX.out
 go_wp2_with fail
 clear x0 x1 x2 xl x3 x4 x5 xm y0 y1 y2 y3 y4 y5 y6 y7 yl
 refine (CU2.out _ _ _ wn (HL0.out wn HX.out) (HA0.out wn HX.out) (HB0.out wn HX.out)).mono ?_
 rintro e wn ⟨hf,q2,k2,rfl,hr⟩
 replace HX:=hid (HX.out.trans hf)
 replace HR1:=hid (HR1.out.keep0 hf)
 have HR2:=hid hr
 clear hf hr
 obtain ⟨x0,x1,x2,xl,x3,x4,x5,xm,y0,y1,y2,y3,y4,y5,y6,y7,yl⟩:=HK.out wn HX.out
 go_wp2_with fail
 clear x0 x1 x2 xl x3 x4 x5 xm y0 y1 y2 y3 y4 y5 y6 y7 yl
 refine (CM1.out _ _ wn (HA0.out wn HX.out) (HB0.out wn HX.out)).mono ?_
 rintro e wn ⟨hf,q3,k3,rfl,hr⟩
 replace HX:=hid (HX.out.trans hf)
 replace HR1:=hid (HR1.out.keep0 hf)
 replace HR2:=hid (HR2.out.keep0 hf)
 have HM1:=hid hr
 clear hf hr
 obtain ⟨x0,x1,x2,xl,x3,x4,x5,xm,y0,y1,y2,y3,y4,y5,y6,y7,yl⟩:=HK.out wn HX.out
 go_wp2_with fail
 clear x0 x1 x2 xl x3 x4 x5 xm y0 y1 y2 y3 y4 y5 y6 y7 yl
 refine (CM2.out _ _ wn (HA0.out wn HX.out) (HB0.out wn HX.out)).mono ?_
 rintro e wn ⟨hf,q4,k4,rfl,hr⟩
 replace HX:=hid (HX.out.trans hf)
 replace HR1:=hid (HR1.out.keep0 hf)
 replace HR2:=hid (HR2.out.keep0 hf)
 replace HM1:=hid (HM1.out.keep0 hf)
 have HM2:=hid hr
 clear hf hr
 obtain ⟨x0,x1,x2,xl,x3,x4,x5,xm,y0,y1,y2,y3,y4,y5,y6,y7,yl⟩:=HK.out wn HX.out
 go_wp2_with fail
 clear x0 x1 x2 xl x3 x4 x5 xm y0 y1 y2 y3 y4 y5 y6 y7 yl
 have CV1 : Hid (∀ wx,Fr [] w2 wx → Calls Try.prog 21 #[.agg #[.slice p0 n0 c0,.slice p1 n1 c1,.slice pd ds.length cd,.slice p3 n3 c3,.slice p4 n4 c4,.slice p5 n5 c5,.slice p6 n6 c6,.int .i64 m],.int .i64 p,.agg #[.int .i64 (kd a),.int .i64 (nm a),.slice pa (ar a).length ca]] wx (LookP (Un.valid ds p a) wx)):=hid (fun wx hf => valid_any ds p _ _ _ _ a wx (HP0.out wx hf) (HA0.out wx hf))
 have CV2 : Hid (∀ wx,Fr [] w2 wx → Calls Try.prog 22 #[.agg #[.slice p0 n0 c0,.slice p1 n1 c1,.slice pd ds.length cd,.slice p3 n3 c3,.slice p4 n4 c4,.slice p5 n5 c5,.slice p6 n6 c6,.int .i64 m],.int .i64 p,.agg #[.int .i64 (kd a),.int .i64 (nm a),.slice pa (ar a).length ca]] wx (LookP (Un.valid ds p a) wx)):=hid (fun wx hf => rvalid_any ds p _ _ a wx (HP0.out wx hf) (HA0.out wx hf))
 obtain ⟨bv,hbv⟩ : ∃ bv,bv = Un.valid ds p a:=⟨_,rfl⟩
 rw [← hbv] at CV1 CV2
 clear hbv
 refine wp_region_any (by kernel_rfl) ?_
 change wpAny _ _ _ _ _ _ _ (World.drew _)
 obtain ⟨wd,hwd⟩ : ∃ wd,wd = wn.drew:=⟨_,rfl⟩
 have hf : Fr [] wn wd:=by rw [hwd];exact (Fr.refl _ _).drew
 replace HX:=hid (HX.out.trans hf);replace HR1:=hid (HR1.out.keep0 hf);replace HR2:=hid (HR2.out.keep0 hf);replace HM1:=hid (HM1.out.keep0 hf);replace HM2:=hid (HM2.out.keep0 hf)
 rw [← hwd]
 clear hwd hf
 obtain ⟨x0,x1,x2,xl,x3,x4,x5,xm,y0,y1,y2,y3,y4,y5,y6,y7,yl⟩:=HK.out _ HX.out
 (refine rd [0] (.cons rfl (fun K hK => ?_) .nil);go_simp;refine hK _ _ ?_;clear hK K)
 (refine rd [1] (.cons rfl (fun K hK => ?_) .nil);go_simp;refine hK _ _ ?_;clear hK K)
 (refine tk 2 (.slice q1 lu.length k1) rfl ?_ (fun _ _ _ h => h) (by rfl))
 (refine tk 3 (.slice q2 lu.length k2) rfl ?_ (fun _ _ _ h => h) (by rfl))
 (refine rd [4] (.cons rfl (fun K hK => ?_) .nil);go_simp;go_at_call 15;(with_reducible refine (same_refl_any lu _ _ _ HR1.out HR2.out).mono ?_);rintro e wn ⟨rfl,hf⟩;replace HX:=hid (HX.out.trans hf);replace HR1:=hid (HR1.out.keep0 hf);replace HR2:=hid (HR2.out.keep0 hf);replace HM1:=hid (HM1.out.keep0 hf);replace HM2:=hid (HM2.out.keep0 hf);clear hf;clear x0 x1 x2 xl x3 x4 x5 xm y0 y1 y2 y3 y4 y5 y6 y7 yl;obtain ⟨x0,x1,x2,xl,x3,x4,x5,xm,y0,y1,y2,y3,y4,y5,y6,y7,yl⟩:=HK.out _ HX.out;refine hK _ _ ?_;clear hK K)
 (refine rd [5] (.cons rfl (fun K hK => ?_) .nil);go_simp;refine hK _ _ ?_;clear hK K)
 (refine rd [6] (.cons rfl (fun K hK => ?_) .nil);go_simp;refine hK _ _ ?_;clear hK K)
 (refine tk 7 (.int .i64 cu) rfl ?_ (fun _ _ _ h => h) (by rfl))
 (refine tk 8 (.int .i64 cu) rfl ?_ (fun _ _ _ h => h) (by rfl))
 (refine rd [9] (.cons rfl (fun K hK => ?_) .nil);go_simp;refine hK _ _ ?_;clear hK K)
 (refine rd [10] (.cons rfl (fun K hK => ?_) .nil);go_simp;refine hK _ _ ?_;clear hK K)
 (refine rd [11] (.cons rfl (fun K hK => ?_) .nil);go_simp;refine hK _ _ ?_;clear hK K)
 (refine tk 12 (.slice q3 lm.length k3) rfl ?_ (fun _ _ _ h => h) (by rfl))
 (refine tk 13 (.slice q4 lm.length k4) rfl ?_ (fun _ _ _ h => h) (by rfl))
 (refine rd [14] (.cons rfl (fun K hK => ?_) .nil);go_simp;go_at_call 15;(with_reducible refine (same_refl_any lm _ _ _ HM1.out HM2.out).mono ?_);rintro e wn ⟨rfl,hf⟩;replace HX:=hid (HX.out.trans hf);replace HR1:=hid (HR1.out.keep0 hf);replace HR2:=hid (HR2.out.keep0 hf);replace HM1:=hid (HM1.out.keep0 hf);replace HM2:=hid (HM2.out.keep0 hf);clear hf;clear x0 x1 x2 xl x3 x4 x5 xm y0 y1 y2 y3 y4 y5 y6 y7 yl;obtain ⟨x0,x1,x2,xl,x3,x4,x5,xm,y0,y1,y2,y3,y4,y5,y6,y7,yl⟩:=HK.out _ HX.out;refine hK _ _ ?_;clear hK K)
 (refine rd [15] (.cons rfl (fun K hK => ?_) .nil);go_simp;refine hK _ _ ?_;clear hK K)
 (refine rd [16] (.cons rfl (fun K hK => ?_) .nil);go_simp;refine hK _ _ ?_;clear hK K)
 (refine tk 17 (.bool bm) rfl ?_ (fun _ _ _ h => h) (by rfl))
 (refine tk 18 (.bool bm) rfl ?_ (fun _ _ _ h => h) (by rfl))
 (refine rd [19] (.cons rfl (fun K hK => ?_) .nil);go_simp;refine hK _ _ ?_;clear hK K)
 (refine rd [20] (.cons rfl (fun K hK => ?_) .nil);go_simp;refine hK _ _ ?_;clear hK K)
 (refine rd [21] (.cons rfl (fun K hK => ?_) .nil);go_simp;refine hK _ _ ?_;clear hK K)
 clear HR1 HR2 HM1 HM2
 clear x0 x1 x2 xl x3 x4 x5 xm y0 y1 y2 y3 y4 y5 y6 y7 yl
 apply merge_leaves
 ·intro REST
  obtain ⟨x0,x1,x2,xl,x3,x4,x5,xm,y0,y1,y2,y3,y4,y5,y6,y7,yl⟩:=HK.out _ HX.out
  (refine tk 22 (.slice pl n kl) rfl ?_ (fun _ _ _ h => h) (by rfl))
  (refine tk 25 (.slice pl n kl) rfl ?_ (fun _ _ _ h => h) (by rfl))
  iterate 4 (all_goals (first | (refine rd [23,26] (.cons rfl (fun K hK => ?_) (.cons rfl (fun K hK => ?_) .nil)) <;> (go_simp;first | (refine hK _ _ ?_;clear hK K))) | (refine rd [23,27] (.cons rfl (fun K hK => ?_) (.cons rfl (fun K hK => ?_) .nil)) <;> (go_simp;first | (refine hK _ _ ?_;clear hK K) | (go_at_call 18;(with_reducible refine (CS2.out _ _ _ (HL0.out _ HX.out) (HA0.out _ HX.out)).mono ?_);rintro e wn ⟨hf,d2,rfl,hd⟩;replace HX:=hid (HX.out.trans hf);(try replace HD1:=hid (HD1.out.keep0 hf));have HD2:=hid hd;clear hf hd;clear x0 x1 x2 xl x3 x4 x5 xm y0 y1 y2 y3 y4 y5 y6 y7 yl;obtain ⟨x0,x1,x2,xl,x3,x4,x5,xm,y0,y1,y2,y3,y4,y5,y6,y7,yl⟩:=HK.out _ HX.out;refine hK _ _ ?_;clear hK K))) | (refine rd [23] (.cons rfl (fun K hK => ?_) .nil) <;> (go_simp;first | (refine hK _ _ ?_;clear hK K))) | (refine rd [24,26] (.cons rfl (fun K hK => ?_) (.cons rfl (fun K hK => ?_) .nil)) <;> (go_simp;first | (refine hK _ _ ?_;clear hK K) | (go_at_call 17;(with_reducible refine (CS1.out _ _ _ (HL0.out _ HX.out) (HA0.out _ HX.out)).mono ?_);rintro e wn ⟨hf,d1,rfl,hd⟩;replace HX:=hid (HX.out.trans hf);(try replace HD2:=hid (HD2.out.keep0 hf));have HD1:=hid hd;clear hf hd;clear x0 x1 x2 xl x3 x4 x5 xm y0 y1 y2 y3 y4 y5 y6 y7 yl;obtain ⟨x0,x1,x2,xl,x3,x4,x5,xm,y0,y1,y2,y3,y4,y5,y6,y7,yl⟩:=HK.out _ HX.out;refine hK _ _ ?_;clear hK K))) | (refine rd [24,27] (.cons rfl (fun K hK => ?_) (.cons rfl (fun K hK => ?_) .nil)) <;> (go_simp;first | (go_at_call 17;(with_reducible refine (CS1.out _ _ _ (HL0.out _ HX.out) (HA0.out _ HX.out)).mono ?_);rintro e wn ⟨hf,d1,rfl,hd⟩;replace HX:=hid (HX.out.trans hf);(try replace HD2:=hid (HD2.out.keep0 hf));have HD1:=hid hd;clear hf hd;clear x0 x1 x2 xl x3 x4 x5 xm y0 y1 y2 y3 y4 y5 y6 y7 yl;obtain ⟨x0,x1,x2,xl,x3,x4,x5,xm,y0,y1,y2,y3,y4,y5,y6,y7,yl⟩:=HK.out _ HX.out;refine hK _ _ ?_;clear hK K) | (go_at_call 18;(with_reducible refine (CS2.out _ _ _ (HL0.out _ HX.out) (HA0.out _ HX.out)).mono ?_);rintro e wn ⟨hf,d2,rfl,hd⟩;replace HX:=hid (HX.out.trans hf);(try replace HD1:=hid (HD1.out.keep0 hf));have HD2:=hid hd;clear hf hd;clear x0 x1 x2 xl x3 x4 x5 xm y0 y1 y2 y3 y4 y5 y6 y7 yl;obtain ⟨x0,x1,x2,xl,x3,x4,x5,xm,y0,y1,y2,y3,y4,y5,y6,y7,yl⟩:=HK.out _ HX.out;refine hK _ _ ?_;clear hK K))) | (refine rd [24] (.cons rfl (fun K hK => ?_) .nil) <;> (go_simp;first | (go_at_call 17;(with_reducible refine (CS1.out _ _ _ (HL0.out _ HX.out) (HA0.out _ HX.out)).mono ?_);rintro e wn ⟨hf,d1,rfl,hd⟩;replace HX:=hid (HX.out.trans hf);(try replace HD2:=hid (HD2.out.keep0 hf));have HD1:=hid hd;clear hf hd;clear x0 x1 x2 xl x3 x4 x5 xm y0 y1 y2 y3 y4 y5 y6 y7 yl;obtain ⟨x0,x1,x2,xl,x3,x4,x5,xm,y0,y1,y2,y3,y4,y5,y6,y7,yl⟩:=HK.out _ HX.out;refine hK _ _ ?_;clear hK K))) | (refine rd [26] (.cons rfl (fun K hK => ?_) .nil) <;> (go_simp;first | (refine hK _ _ ?_;clear hK K))) | (refine rd [27] (.cons rfl (fun K hK => ?_) .nil) <;> (go_simp;first | (go_at_call 18;(with_reducible refine (CS2.out _ _ _ (HL0.out _ HX.out) (HA0.out _ HX.out)).mono ?_);rintro e wn ⟨hf,d2,rfl,hd⟩;replace HX:=hid (HX.out.trans hf);(try replace HD1:=hid (HD1.out.keep0 hf));have HD2:=hid hd;clear hf hd;clear x0 x1 x2 xl x3 x4 x5 xm y0 y1 y2 y3 y4 y5 y6 y7 yl;obtain ⟨x0,x1,x2,xl,x3,x4,x5,xm,y0,y1,y2,y3,y4,y5,y6,y7,yl⟩:=HK.out _ HX.out;refine hK _ _ ?_;clear hK K)))))
  all_goals (refine rd [28] (.cons rfl (fun K hK => ?_) .nil);go_simp;go_at_call 16;(with_reducible refine (same_one_any rs _ _ _ HD1.out HD2.out).mono ?_);rintro e wn ⟨rfl,hf⟩;replace HX:=hid (HX.out.trans hf);clear hf HD1 HD2;clear x0 x1 x2 xl x3 x4 x5 xm y0 y1 y2 y3 y4 y5 y6 y7 yl;obtain ⟨x0,x1,x2,xl,x3,x4,x5,xm,y0,y1,y2,y3,y4,y5,y6,y7,yl⟩:=HK.out _ HX.out;refine hK _ _ ?_;clear hK K)
  all_goals (refine rd [29] (.cons rfl (fun K hK => ?_) .nil);go_simp;refine hK _ _ ?_;clear hK K)
  all_goals (refine rd [30] (.cons rfl (fun K hK => ?_) .nil);go_simp;refine hK _ _ ?_;clear hK K)
  all_goals (refine wpAny_redo rfl (d':=#[true,true,true,true,true,true,true,true,true,true,true,true,true,true,true,true,true,true,true,true,true,true,true,true,true,true,true,true,true,true,true,false,false,false,false,false,false,false,false,false,false,false,false,false,false,false,false,false,false,false,false]) (by decide +kernel) ?_;clear x0 x1 x2 xl x3 x4 x5 xm y0 y1 y2 y3 y4 y5 y6 y7 yl;revert HX;revert wn;revert d2;revert d1;exact REST)
 ·intro d1 d2 wn HX
  obtain ⟨x0,x1,x2,xl,x3,x4,x5,xm,y0,y1,y2,y3,y4,y5,y6,y7,yl⟩:=HK.out _ HX.out
  clear x0 x1 x2 xl x3 x4 x5 xm y0 y1 y2 y3 y4 y5 y6 y7 yl
  apply merge_leaves
  ·intro REST
   obtain ⟨x0,x1,x2,xl,x3,x4,x5,xm,y0,y1,y2,y3,y4,y5,y6,y7,yl⟩:=HK.out _ HX.out
   (refine tk 31 (.slice pl n kl) rfl ?_ (fun _ _ _ h => h) (by rfl))
   (refine tk 34 (.slice pl n kl) rfl ?_ (fun _ _ _ h => h) (by rfl))
   iterate 4 (all_goals (first | (refine rd [32,35] (.cons rfl (fun K hK => ?_) (.cons rfl (fun K hK => ?_) .nil)) <;> (go_simp;first | (refine hK _ _ ?_;clear hK K))) | (refine rd [32,36] (.cons rfl (fun K hK => ?_) (.cons rfl (fun K hK => ?_) .nil)) <;> (go_simp;first | (refine hK _ _ ?_;clear hK K) | (go_at_call 20;(with_reducible refine (CA2.out _ _ _ (HL0.out _ HX.out) (HA0.out _ HX.out)).mono ?_);rintro e wn ⟨hf,d2,rfl,hd⟩;replace HX:=hid (HX.out.trans hf);(try replace HD1:=hid (HD1.out.keep0 hf));have HD2:=hid hd;clear hf hd;clear x0 x1 x2 xl x3 x4 x5 xm y0 y1 y2 y3 y4 y5 y6 y7 yl;obtain ⟨x0,x1,x2,xl,x3,x4,x5,xm,y0,y1,y2,y3,y4,y5,y6,y7,yl⟩:=HK.out _ HX.out;refine hK _ _ ?_;clear hK K))) | (refine rd [32] (.cons rfl (fun K hK => ?_) .nil) <;> (go_simp;first | (refine hK _ _ ?_;clear hK K))) | (refine rd [33,35] (.cons rfl (fun K hK => ?_) (.cons rfl (fun K hK => ?_) .nil)) <;> (go_simp;first | (refine hK _ _ ?_;clear hK K) | (go_at_call 19;(with_reducible refine (CA1.out _ _ _ (HL0.out _ HX.out) (HA0.out _ HX.out)).mono ?_);rintro e wn ⟨hf,d1,rfl,hd⟩;replace HX:=hid (HX.out.trans hf);(try replace HD2:=hid (HD2.out.keep0 hf));have HD1:=hid hd;clear hf hd;clear x0 x1 x2 xl x3 x4 x5 xm y0 y1 y2 y3 y4 y5 y6 y7 yl;obtain ⟨x0,x1,x2,xl,x3,x4,x5,xm,y0,y1,y2,y3,y4,y5,y6,y7,yl⟩:=HK.out _ HX.out;refine hK _ _ ?_;clear hK K))) | (refine rd [33,36] (.cons rfl (fun K hK => ?_) (.cons rfl (fun K hK => ?_) .nil)) <;> (go_simp;first | (go_at_call 19;(with_reducible refine (CA1.out _ _ _ (HL0.out _ HX.out) (HA0.out _ HX.out)).mono ?_);rintro e wn ⟨hf,d1,rfl,hd⟩;replace HX:=hid (HX.out.trans hf);(try replace HD2:=hid (HD2.out.keep0 hf));have HD1:=hid hd;clear hf hd;clear x0 x1 x2 xl x3 x4 x5 xm y0 y1 y2 y3 y4 y5 y6 y7 yl;obtain ⟨x0,x1,x2,xl,x3,x4,x5,xm,y0,y1,y2,y3,y4,y5,y6,y7,yl⟩:=HK.out _ HX.out;refine hK _ _ ?_;clear hK K) | (go_at_call 20;(with_reducible refine (CA2.out _ _ _ (HL0.out _ HX.out) (HA0.out _ HX.out)).mono ?_);rintro e wn ⟨hf,d2,rfl,hd⟩;replace HX:=hid (HX.out.trans hf);(try replace HD1:=hid (HD1.out.keep0 hf));have HD2:=hid hd;clear hf hd;clear x0 x1 x2 xl x3 x4 x5 xm y0 y1 y2 y3 y4 y5 y6 y7 yl;obtain ⟨x0,x1,x2,xl,x3,x4,x5,xm,y0,y1,y2,y3,y4,y5,y6,y7,yl⟩:=HK.out _ HX.out;refine hK _ _ ?_;clear hK K))) | (refine rd [33] (.cons rfl (fun K hK => ?_) .nil) <;> (go_simp;first | (go_at_call 19;(with_reducible refine (CA1.out _ _ _ (HL0.out _ HX.out) (HA0.out _ HX.out)).mono ?_);rintro e wn ⟨hf,d1,rfl,hd⟩;replace HX:=hid (HX.out.trans hf);(try replace HD2:=hid (HD2.out.keep0 hf));have HD1:=hid hd;clear hf hd;clear x0 x1 x2 xl x3 x4 x5 xm y0 y1 y2 y3 y4 y5 y6 y7 yl;obtain ⟨x0,x1,x2,xl,x3,x4,x5,xm,y0,y1,y2,y3,y4,y5,y6,y7,yl⟩:=HK.out _ HX.out;refine hK _ _ ?_;clear hK K))) | (refine rd [35] (.cons rfl (fun K hK => ?_) .nil) <;> (go_simp;first | (refine hK _ _ ?_;clear hK K))) | (refine rd [36] (.cons rfl (fun K hK => ?_) .nil) <;> (go_simp;first | (go_at_call 20;(with_reducible refine (CA2.out _ _ _ (HL0.out _ HX.out) (HA0.out _ HX.out)).mono ?_);rintro e wn ⟨hf,d2,rfl,hd⟩;replace HX:=hid (HX.out.trans hf);(try replace HD1:=hid (HD1.out.keep0 hf));have HD2:=hid hd;clear hf hd;clear x0 x1 x2 xl x3 x4 x5 xm y0 y1 y2 y3 y4 y5 y6 y7 yl;obtain ⟨x0,x1,x2,xl,x3,x4,x5,xm,y0,y1,y2,y3,y4,y5,y6,y7,yl⟩:=HK.out _ HX.out;refine hK _ _ ?_;clear hK K)))))
   all_goals (refine rd [37] (.cons rfl (fun K hK => ?_) .nil);go_simp;go_at_call 16;(with_reducible refine (same_one_any ra _ _ _ HD1.out HD2.out).mono ?_);rintro e wn ⟨rfl,hf⟩;replace HX:=hid (HX.out.trans hf);clear hf HD1 HD2;clear x0 x1 x2 xl x3 x4 x5 xm y0 y1 y2 y3 y4 y5 y6 y7 yl;obtain ⟨x0,x1,x2,xl,x3,x4,x5,xm,y0,y1,y2,y3,y4,y5,y6,y7,yl⟩:=HK.out _ HX.out;refine hK _ _ ?_;clear hK K)
   all_goals (refine rd [38] (.cons rfl (fun K hK => ?_) .nil);go_simp;refine hK _ _ ?_;clear hK K)
   all_goals (refine rd [39] (.cons rfl (fun K hK => ?_) .nil);go_simp;refine hK _ _ ?_;clear hK K)
   all_goals (refine wpAny_redo rfl (d':=#[true,true,true,true,true,true,true,true,true,true,true,true,true,true,true,true,true,true,true,true,true,true,true,true,true,true,true,true,true,true,true,true,true,true,true,true,true,true,true,true,false,false,false,false,false,false,false,false,false,false,false]) (by decide +kernel) ?_;clear x0 x1 x2 xl x3 x4 x5 xm y0 y1 y2 y3 y4 y5 y6 y7 yl;revert HX;revert wn;revert d2;revert d1;exact REST)
  ·intro d3 d4 wn HX
   obtain ⟨x0,x1,x2,xl,x3,x4,x5,xm,y0,y1,y2,y3,y4,y5,y6,y7,yl⟩:=HK.out _ HX.out
   clear x0 x1 x2 xl x3 x4 x5 xm y0 y1 y2 y3 y4 y5 y6 y7 yl
   apply merge_leaves
   intro RS40_42_43_44_46_47
   apply merge_leaves
   intro RS40_42_43_44_46
   apply merge_leaves
   intro RS40_42_43_46
   apply merge_leaves
   intro RS40_42_43_44
   apply merge_leaves
   intro RS40_42_44_46
   apply merge_leaves
   intro RS40_42_43
   apply merge_leaves
   intro RS40_42_46
   apply merge_leaves
   intro RS40_42_44
   apply merge_leaves
   intro RS42_44_46
   apply merge_leaves
   intro RS40_44_46
   apply merge_leaves
   intro RS40_42
   apply merge_leaves
   intro RS42_46
   apply merge_leaves
   intro RS42_44
   apply merge_leaves
   intro RS40_46
   apply merge_leaves
   intro RS40_44
   apply merge_leaves
   intro RS44_46
   apply merge_leaves
   intro RS42
   apply merge_leaves
   intro RS40
   apply merge_leaves
   intro RS46
   apply merge_leaves
   intro RS44
   ·obtain ⟨wn,hwn⟩ : ∃ x,x = wn:=⟨_,rfl⟩
    rw [← hwn]
    replace HX : Hid (Fr [] w2 wn):=by rw [hwn];exact HX
    clear hwn
    obtain ⟨x0,x1,x2,xl,x3,x4,x5,xm,y0,y1,y2,y3,y4,y5,y6,y7,yl⟩:=HK.out _ HX.out
    (refine tk 41 (.int .i64 p) rfl ?_ (fun _ _ _ h => h) (by rfl))
    (refine tk 45 (.int .i64 p) rfl ?_ (fun _ _ _ h => h) (by rfl))
    (refine rd [40,42,44,46] (.cons rfl (fun K hK => ?_) (.cons rfl (fun K hK => ?_) (.cons rfl (fun K hK => ?_) (.cons rfl (fun K hK => ?_) .nil)))) <;> (go_simp;first | (refine hK _ _ ?_;clear hK K)))
    ·(refine wpAny_redo rfl (d':=#[true,true,true,true,true,true,true,true,true,true,true,true,true,true,true,true,true,true,true,true,true,true,true,true,true,true,true,true,true,true,true,true,true,true,true,true,true,true,true,true,true,true,false,false,false,true,false,false,false,false,false]) (by decide +kernel) ?_;clear x0 x1 x2 xl x3 x4 x5 xm y0 y1 y2 y3 y4 y5 y6 y7 yl;revert HX;revert wn;exact RS40)
    ·(refine wpAny_redo rfl (d':=#[true,true,true,true,true,true,true,true,true,true,true,true,true,true,true,true,true,true,true,true,true,true,true,true,true,true,true,true,true,true,true,true,true,true,true,true,true,true,true,true,false,true,true,false,false,true,false,false,false,false,false]) (by decide +kernel) ?_;clear x0 x1 x2 xl x3 x4 x5 xm y0 y1 y2 y3 y4 y5 y6 y7 yl;revert HX;revert wn;exact RS42)
    ·(refine wpAny_redo rfl (d':=#[true,true,true,true,true,true,true,true,true,true,true,true,true,true,true,true,true,true,true,true,true,true,true,true,true,true,true,true,true,true,true,true,true,true,true,true,true,true,true,true,false,true,false,false,true,true,false,false,false,false,false]) (by decide +kernel) ?_;clear x0 x1 x2 xl x3 x4 x5 xm y0 y1 y2 y3 y4 y5 y6 y7 yl;revert HX;revert wn;exact RS44)
    ·(refine wpAny_redo rfl (d':=#[true,true,true,true,true,true,true,true,true,true,true,true,true,true,true,true,true,true,true,true,true,true,true,true,true,true,true,true,true,true,true,true,true,true,true,true,true,true,true,true,false,true,false,false,false,true,true,false,false,false,false]) (by decide +kernel) ?_;clear x0 x1 x2 xl x3 x4 x5 xm y0 y1 y2 y3 y4 y5 y6 y7 yl;revert HX;revert wn;exact RS46)
   ·intro wn HX
    obtain ⟨x0,x1,x2,xl,x3,x4,x5,xm,y0,y1,y2,y3,y4,y5,y6,y7,yl⟩:=HK.out _ HX.out
    (refine rd [40,42,46] (.cons rfl (fun K hK => ?_) (.cons rfl (fun K hK => ?_) (.cons rfl (fun K hK => ?_) .nil))) <;> (go_simp;first | (refine hK _ _ ?_;clear hK K)))
    ·(refine wpAny_redo rfl (d':=#[true,true,true,true,true,true,true,true,true,true,true,true,true,true,true,true,true,true,true,true,true,true,true,true,true,true,true,true,true,true,true,true,true,true,true,true,true,true,true,true,true,true,false,false,true,true,false,false,false,false,false]) (by decide +kernel) ?_;clear x0 x1 x2 xl x3 x4 x5 xm y0 y1 y2 y3 y4 y5 y6 y7 yl;revert HX;revert wn;exact RS40_44)
    ·(refine wpAny_redo rfl (d':=#[true,true,true,true,true,true,true,true,true,true,true,true,true,true,true,true,true,true,true,true,true,true,true,true,true,true,true,true,true,true,true,true,true,true,true,true,true,true,true,true,false,true,true,false,true,true,false,false,false,false,false]) (by decide +kernel) ?_;clear x0 x1 x2 xl x3 x4 x5 xm y0 y1 y2 y3 y4 y5 y6 y7 yl;revert HX;revert wn;exact RS42_44)
    ·(refine wpAny_redo rfl (d':=#[true,true,true,true,true,true,true,true,true,true,true,true,true,true,true,true,true,true,true,true,true,true,true,true,true,true,true,true,true,true,true,true,true,true,true,true,true,true,true,true,false,true,false,false,true,true,true,false,false,false,false]) (by decide +kernel) ?_;clear x0 x1 x2 xl x3 x4 x5 xm y0 y1 y2 y3 y4 y5 y6 y7 yl;revert HX;revert wn;exact RS44_46)
   ·intro wn HX
    obtain ⟨x0,x1,x2,xl,x3,x4,x5,xm,y0,y1,y2,y3,y4,y5,y6,y7,yl⟩:=HK.out _ HX.out
    (refine rd [40,42,44] (.cons rfl (fun K hK => ?_) (.cons rfl (fun K hK => ?_) (.cons rfl (fun K hK => ?_) .nil))) <;> (go_simp;first | (refine hK _ _ ?_;clear hK K)))
    ·(refine wpAny_redo rfl (d':=#[true,true,true,true,true,true,true,true,true,true,true,true,true,true,true,true,true,true,true,true,true,true,true,true,true,true,true,true,true,true,true,true,true,true,true,true,true,true,true,true,true,true,false,false,false,true,true,false,false,false,false]) (by decide +kernel) ?_;clear x0 x1 x2 xl x3 x4 x5 xm y0 y1 y2 y3 y4 y5 y6 y7 yl;revert HX;revert wn;exact RS40_46)
    ·(refine wpAny_redo rfl (d':=#[true,true,true,true,true,true,true,true,true,true,true,true,true,true,true,true,true,true,true,true,true,true,true,true,true,true,true,true,true,true,true,true,true,true,true,true,true,true,true,true,false,true,true,false,false,true,true,false,false,false,false]) (by decide +kernel) ?_;clear x0 x1 x2 xl x3 x4 x5 xm y0 y1 y2 y3 y4 y5 y6 y7 yl;revert HX;revert wn;exact RS42_46)
    ·(refine wpAny_redo rfl (d':=#[true,true,true,true,true,true,true,true,true,true,true,true,true,true,true,true,true,true,true,true,true,true,true,true,true,true,true,true,true,true,true,true,true,true,true,true,true,true,true,true,false,true,false,false,true,true,true,false,false,false,false]) (by decide +kernel) ?_;clear x0 x1 x2 xl x3 x4 x5 xm y0 y1 y2 y3 y4 y5 y6 y7 yl;revert HX;revert wn;exact RS44_46)
   ·intro wn HX
    obtain ⟨x0,x1,x2,xl,x3,x4,x5,xm,y0,y1,y2,y3,y4,y5,y6,y7,yl⟩:=HK.out _ HX.out
    (refine rd [42,44,46] (.cons rfl (fun K hK => ?_) (.cons rfl (fun K hK => ?_) (.cons rfl (fun K hK => ?_) .nil))) <;> (go_simp;first | (refine hK _ _ ?_;clear hK K)))
    ·(refine wpAny_redo rfl (d':=#[true,true,true,true,true,true,true,true,true,true,true,true,true,true,true,true,true,true,true,true,true,true,true,true,true,true,true,true,true,true,true,true,true,true,true,true,true,true,true,true,true,true,true,false,false,true,false,false,false,false,false]) (by decide +kernel) ?_;clear x0 x1 x2 xl x3 x4 x5 xm y0 y1 y2 y3 y4 y5 y6 y7 yl;revert HX;revert wn;exact RS40_42)
    ·(refine wpAny_redo rfl (d':=#[true,true,true,true,true,true,true,true,true,true,true,true,true,true,true,true,true,true,true,true,true,true,true,true,true,true,true,true,true,true,true,true,true,true,true,true,true,true,true,true,true,true,false,false,true,true,false,false,false,false,false]) (by decide +kernel) ?_;clear x0 x1 x2 xl x3 x4 x5 xm y0 y1 y2 y3 y4 y5 y6 y7 yl;revert HX;revert wn;exact RS40_44)
    ·(refine wpAny_redo rfl (d':=#[true,true,true,true,true,true,true,true,true,true,true,true,true,true,true,true,true,true,true,true,true,true,true,true,true,true,true,true,true,true,true,true,true,true,true,true,true,true,true,true,true,true,false,false,false,true,true,false,false,false,false]) (by decide +kernel) ?_;clear x0 x1 x2 xl x3 x4 x5 xm y0 y1 y2 y3 y4 y5 y6 y7 yl;revert HX;revert wn;exact RS40_46)
   ·intro wn HX
    obtain ⟨x0,x1,x2,xl,x3,x4,x5,xm,y0,y1,y2,y3,y4,y5,y6,y7,yl⟩:=HK.out _ HX.out
    (refine rd [40,44,46] (.cons rfl (fun K hK => ?_) (.cons rfl (fun K hK => ?_) (.cons rfl (fun K hK => ?_) .nil))) <;> (go_simp;first | (refine hK _ _ ?_;clear hK K)))
    ·(refine wpAny_redo rfl (d':=#[true,true,true,true,true,true,true,true,true,true,true,true,true,true,true,true,true,true,true,true,true,true,true,true,true,true,true,true,true,true,true,true,true,true,true,true,true,true,true,true,true,true,true,false,false,true,false,false,false,false,false]) (by decide +kernel) ?_;clear x0 x1 x2 xl x3 x4 x5 xm y0 y1 y2 y3 y4 y5 y6 y7 yl;revert HX;revert wn;exact RS40_42)
    ·(refine wpAny_redo rfl (d':=#[true,true,true,true,true,true,true,true,true,true,true,true,true,true,true,true,true,true,true,true,true,true,true,true,true,true,true,true,true,true,true,true,true,true,true,true,true,true,true,true,false,true,true,false,true,true,false,false,false,false,false]) (by decide +kernel) ?_;clear x0 x1 x2 xl x3 x4 x5 xm y0 y1 y2 y3 y4 y5 y6 y7 yl;revert HX;revert wn;exact RS42_44)
    ·(refine wpAny_redo rfl (d':=#[true,true,true,true,true,true,true,true,true,true,true,true,true,true,true,true,true,true,true,true,true,true,true,true,true,true,true,true,true,true,true,true,true,true,true,true,true,true,true,true,false,true,true,false,false,true,true,false,false,false,false]) (by decide +kernel) ?_;clear x0 x1 x2 xl x3 x4 x5 xm y0 y1 y2 y3 y4 y5 y6 y7 yl;revert HX;revert wn;exact RS42_46)
   ·intro wn HX
    obtain ⟨x0,x1,x2,xl,x3,x4,x5,xm,y0,y1,y2,y3,y4,y5,y6,y7,yl⟩:=HK.out _ HX.out
    (refine rd [40,42] (.cons rfl (fun K hK => ?_) (.cons rfl (fun K hK => ?_) .nil)) <;> (go_simp;first | (refine hK _ _ ?_;clear hK K)))
    ·(refine wpAny_redo rfl (d':=#[true,true,true,true,true,true,true,true,true,true,true,true,true,true,true,true,true,true,true,true,true,true,true,true,true,true,true,true,true,true,true,true,true,true,true,true,true,true,true,true,true,true,false,false,true,true,true,false,false,false,false]) (by decide +kernel) ?_;clear x0 x1 x2 xl x3 x4 x5 xm y0 y1 y2 y3 y4 y5 y6 y7 yl;revert HX;revert wn;exact RS40_44_46)
    ·(refine wpAny_redo rfl (d':=#[true,true,true,true,true,true,true,true,true,true,true,true,true,true,true,true,true,true,true,true,true,true,true,true,true,true,true,true,true,true,true,true,true,true,true,true,true,true,true,true,false,true,true,false,true,true,true,false,false,false,false]) (by decide +kernel) ?_;clear x0 x1 x2 xl x3 x4 x5 xm y0 y1 y2 y3 y4 y5 y6 y7 yl;revert HX;revert wn;exact RS42_44_46)
   ·intro wn HX
    obtain ⟨x0,x1,x2,xl,x3,x4,x5,xm,y0,y1,y2,y3,y4,y5,y6,y7,yl⟩:=HK.out _ HX.out
    (refine rd [42,46] (.cons rfl (fun K hK => ?_) (.cons rfl (fun K hK => ?_) .nil)) <;> (go_simp;first | (refine hK _ _ ?_;clear hK K)))
    ·(refine wpAny_redo rfl (d':=#[true,true,true,true,true,true,true,true,true,true,true,true,true,true,true,true,true,true,true,true,true,true,true,true,true,true,true,true,true,true,true,true,true,true,true,true,true,true,true,true,true,true,true,false,true,true,false,false,false,false,false]) (by decide +kernel) ?_;clear x0 x1 x2 xl x3 x4 x5 xm y0 y1 y2 y3 y4 y5 y6 y7 yl;revert HX;revert wn;exact RS40_42_44)
    ·(refine wpAny_redo rfl (d':=#[true,true,true,true,true,true,true,true,true,true,true,true,true,true,true,true,true,true,true,true,true,true,true,true,true,true,true,true,true,true,true,true,true,true,true,true,true,true,true,true,true,true,false,false,true,true,true,false,false,false,false]) (by decide +kernel) ?_;clear x0 x1 x2 xl x3 x4 x5 xm y0 y1 y2 y3 y4 y5 y6 y7 yl;revert HX;revert wn;exact RS40_44_46)
   ·intro wn HX
    obtain ⟨x0,x1,x2,xl,x3,x4,x5,xm,y0,y1,y2,y3,y4,y5,y6,y7,yl⟩:=HK.out _ HX.out
    (refine rd [42,44] (.cons rfl (fun K hK => ?_) (.cons rfl (fun K hK => ?_) .nil)) <;> (go_simp;first | (refine hK _ _ ?_;clear hK K)))
    ·(refine wpAny_redo rfl (d':=#[true,true,true,true,true,true,true,true,true,true,true,true,true,true,true,true,true,true,true,true,true,true,true,true,true,true,true,true,true,true,true,true,true,true,true,true,true,true,true,true,true,true,true,false,false,true,true,false,false,false,false]) (by decide +kernel) ?_;clear x0 x1 x2 xl x3 x4 x5 xm y0 y1 y2 y3 y4 y5 y6 y7 yl;revert HX;revert wn;exact RS40_42_46)
    ·(refine wpAny_redo rfl (d':=#[true,true,true,true,true,true,true,true,true,true,true,true,true,true,true,true,true,true,true,true,true,true,true,true,true,true,true,true,true,true,true,true,true,true,true,true,true,true,true,true,true,true,false,false,true,true,true,false,false,false,false]) (by decide +kernel) ?_;clear x0 x1 x2 xl x3 x4 x5 xm y0 y1 y2 y3 y4 y5 y6 y7 yl;revert HX;revert wn;exact RS40_44_46)
   ·intro wn HX
    obtain ⟨x0,x1,x2,xl,x3,x4,x5,xm,y0,y1,y2,y3,y4,y5,y6,y7,yl⟩:=HK.out _ HX.out
    (refine rd [40,46] (.cons rfl (fun K hK => ?_) (.cons rfl (fun K hK => ?_) .nil)) <;> (go_simp;first | (refine hK _ _ ?_;clear hK K)))
    ·(refine wpAny_redo rfl (d':=#[true,true,true,true,true,true,true,true,true,true,true,true,true,true,true,true,true,true,true,true,true,true,true,true,true,true,true,true,true,true,true,true,true,true,true,true,true,true,true,true,true,true,true,false,true,true,false,false,false,false,false]) (by decide +kernel) ?_;clear x0 x1 x2 xl x3 x4 x5 xm y0 y1 y2 y3 y4 y5 y6 y7 yl;revert HX;revert wn;exact RS40_42_44)
    ·(refine wpAny_redo rfl (d':=#[true,true,true,true,true,true,true,true,true,true,true,true,true,true,true,true,true,true,true,true,true,true,true,true,true,true,true,true,true,true,true,true,true,true,true,true,true,true,true,true,false,true,true,false,true,true,true,false,false,false,false]) (by decide +kernel) ?_;clear x0 x1 x2 xl x3 x4 x5 xm y0 y1 y2 y3 y4 y5 y6 y7 yl;revert HX;revert wn;exact RS42_44_46)
   ·intro wn HX
    obtain ⟨x0,x1,x2,xl,x3,x4,x5,xm,y0,y1,y2,y3,y4,y5,y6,y7,yl⟩:=HK.out _ HX.out
    (refine rd [40,44] (.cons rfl (fun K hK => ?_) (.cons rfl (fun K hK => ?_) .nil)) <;> (go_simp;first | (refine hK _ _ ?_;clear hK K)))
    ·(refine wpAny_redo rfl (d':=#[true,true,true,true,true,true,true,true,true,true,true,true,true,true,true,true,true,true,true,true,true,true,true,true,true,true,true,true,true,true,true,true,true,true,true,true,true,true,true,true,true,true,true,false,false,true,true,false,false,false,false]) (by decide +kernel) ?_;clear x0 x1 x2 xl x3 x4 x5 xm y0 y1 y2 y3 y4 y5 y6 y7 yl;revert HX;revert wn;exact RS40_42_46)
    ·(refine wpAny_redo rfl (d':=#[true,true,true,true,true,true,true,true,true,true,true,true,true,true,true,true,true,true,true,true,true,true,true,true,true,true,true,true,true,true,true,true,true,true,true,true,true,true,true,true,false,true,true,false,true,true,true,false,false,false,false]) (by decide +kernel) ?_;clear x0 x1 x2 xl x3 x4 x5 xm y0 y1 y2 y3 y4 y5 y6 y7 yl;revert HX;revert wn;exact RS42_44_46)
   ·intro wn HX
    obtain ⟨x0,x1,x2,xl,x3,x4,x5,xm,y0,y1,y2,y3,y4,y5,y6,y7,yl⟩:=HK.out _ HX.out
    (refine rd [43,44,46] (.cons rfl (fun K hK => ?_) (.cons rfl (fun K hK => ?_) (.cons rfl (fun K hK => ?_) .nil))) <;> (go_simp;first | (refine hK _ _ ?_;clear hK K) | (go_at_call 21;(with_reducible refine (CV1.out _ HX.out).mono ?_);rintro e wn ⟨rfl,hf⟩;replace HX:=hid (HX.out.trans hf);clear hf;clear x0 x1 x2 xl x3 x4 x5 xm y0 y1 y2 y3 y4 y5 y6 y7 yl;obtain ⟨x0,x1,x2,xl,x3,x4,x5,xm,y0,y1,y2,y3,y4,y5,y6,y7,yl⟩:=HK.out _ HX.out;refine hK _ _ ?_;clear hK K)))
    ·(refine wpAny_redo rfl (d':=#[true,true,true,true,true,true,true,true,true,true,true,true,true,true,true,true,true,true,true,true,true,true,true,true,true,true,true,true,true,true,true,true,true,true,true,true,true,true,true,true,true,true,true,true,false,true,false,false,false,false,false]) (by decide +kernel) ?_;clear x0 x1 x2 xl x3 x4 x5 xm y0 y1 y2 y3 y4 y5 y6 y7 yl;revert HX;revert wn;exact RS40_42_43)
    ·(refine wpAny_redo rfl (d':=#[true,true,true,true,true,true,true,true,true,true,true,true,true,true,true,true,true,true,true,true,true,true,true,true,true,true,true,true,true,true,true,true,true,true,true,true,true,true,true,true,true,true,true,false,true,true,false,false,false,false,false]) (by decide +kernel) ?_;clear x0 x1 x2 xl x3 x4 x5 xm y0 y1 y2 y3 y4 y5 y6 y7 yl;revert HX;revert wn;exact RS40_42_44)
    ·(refine wpAny_redo rfl (d':=#[true,true,true,true,true,true,true,true,true,true,true,true,true,true,true,true,true,true,true,true,true,true,true,true,true,true,true,true,true,true,true,true,true,true,true,true,true,true,true,true,true,true,true,false,false,true,true,false,false,false,false]) (by decide +kernel) ?_;clear x0 x1 x2 xl x3 x4 x5 xm y0 y1 y2 y3 y4 y5 y6 y7 yl;revert HX;revert wn;exact RS40_42_46)
   ·intro wn HX
    obtain ⟨x0,x1,x2,xl,x3,x4,x5,xm,y0,y1,y2,y3,y4,y5,y6,y7,yl⟩:=HK.out _ HX.out
    (refine rd [42] (.cons rfl (fun K hK => ?_) .nil) <;> (go_simp;first | (refine hK _ _ ?_;clear hK K)))
    ·(refine wpAny_redo rfl (d':=#[true,true,true,true,true,true,true,true,true,true,true,true,true,true,true,true,true,true,true,true,true,true,true,true,true,true,true,true,true,true,true,true,true,true,true,true,true,true,true,true,true,true,true,false,true,true,true,false,false,false,false]) (by decide +kernel) ?_;clear x0 x1 x2 xl x3 x4 x5 xm y0 y1 y2 y3 y4 y5 y6 y7 yl;revert HX;revert wn;exact RS40_42_44_46)
   ·intro wn HX
    obtain ⟨x0,x1,x2,xl,x3,x4,x5,xm,y0,y1,y2,y3,y4,y5,y6,y7,yl⟩:=HK.out _ HX.out
    (refine rd [40] (.cons rfl (fun K hK => ?_) .nil) <;> (go_simp;first | (refine hK _ _ ?_;clear hK K)))
    ·(refine wpAny_redo rfl (d':=#[true,true,true,true,true,true,true,true,true,true,true,true,true,true,true,true,true,true,true,true,true,true,true,true,true,true,true,true,true,true,true,true,true,true,true,true,true,true,true,true,true,true,true,false,true,true,true,false,false,false,false]) (by decide +kernel) ?_;clear x0 x1 x2 xl x3 x4 x5 xm y0 y1 y2 y3 y4 y5 y6 y7 yl;revert HX;revert wn;exact RS40_42_44_46)
   ·intro wn HX
    obtain ⟨x0,x1,x2,xl,x3,x4,x5,xm,y0,y1,y2,y3,y4,y5,y6,y7,yl⟩:=HK.out _ HX.out
    (refine rd [43,46] (.cons rfl (fun K hK => ?_) (.cons rfl (fun K hK => ?_) .nil)) <;> (go_simp;first | (refine hK _ _ ?_;clear hK K) | (go_at_call 21;(with_reducible refine (CV1.out _ HX.out).mono ?_);rintro e wn ⟨rfl,hf⟩;replace HX:=hid (HX.out.trans hf);clear hf;clear x0 x1 x2 xl x3 x4 x5 xm y0 y1 y2 y3 y4 y5 y6 y7 yl;obtain ⟨x0,x1,x2,xl,x3,x4,x5,xm,y0,y1,y2,y3,y4,y5,y6,y7,yl⟩:=HK.out _ HX.out;refine hK _ _ ?_;clear hK K)))
    ·(refine wpAny_redo rfl (d':=#[true,true,true,true,true,true,true,true,true,true,true,true,true,true,true,true,true,true,true,true,true,true,true,true,true,true,true,true,true,true,true,true,true,true,true,true,true,true,true,true,true,true,true,true,true,true,false,false,false,false,false]) (by decide +kernel) ?_;clear x0 x1 x2 xl x3 x4 x5 xm y0 y1 y2 y3 y4 y5 y6 y7 yl;revert HX;revert wn;exact RS40_42_43_44)
    ·(refine wpAny_redo rfl (d':=#[true,true,true,true,true,true,true,true,true,true,true,true,true,true,true,true,true,true,true,true,true,true,true,true,true,true,true,true,true,true,true,true,true,true,true,true,true,true,true,true,true,true,true,false,true,true,true,false,false,false,false]) (by decide +kernel) ?_;clear x0 x1 x2 xl x3 x4 x5 xm y0 y1 y2 y3 y4 y5 y6 y7 yl;revert HX;revert wn;exact RS40_42_44_46)
   ·intro wn HX
    obtain ⟨x0,x1,x2,xl,x3,x4,x5,xm,y0,y1,y2,y3,y4,y5,y6,y7,yl⟩:=HK.out _ HX.out
    (refine rd [43,44] (.cons rfl (fun K hK => ?_) (.cons rfl (fun K hK => ?_) .nil)) <;> (go_simp;first | (refine hK _ _ ?_;clear hK K) | (go_at_call 21;(with_reducible refine (CV1.out _ HX.out).mono ?_);rintro e wn ⟨rfl,hf⟩;replace HX:=hid (HX.out.trans hf);clear hf;clear x0 x1 x2 xl x3 x4 x5 xm y0 y1 y2 y3 y4 y5 y6 y7 yl;obtain ⟨x0,x1,x2,xl,x3,x4,x5,xm,y0,y1,y2,y3,y4,y5,y6,y7,yl⟩:=HK.out _ HX.out;refine hK _ _ ?_;clear hK K)))
    ·(refine wpAny_redo rfl (d':=#[true,true,true,true,true,true,true,true,true,true,true,true,true,true,true,true,true,true,true,true,true,true,true,true,true,true,true,true,true,true,true,true,true,true,true,true,true,true,true,true,true,true,true,true,false,true,true,false,false,false,false]) (by decide +kernel) ?_;clear x0 x1 x2 xl x3 x4 x5 xm y0 y1 y2 y3 y4 y5 y6 y7 yl;revert HX;revert wn;exact RS40_42_43_46)
    ·(refine wpAny_redo rfl (d':=#[true,true,true,true,true,true,true,true,true,true,true,true,true,true,true,true,true,true,true,true,true,true,true,true,true,true,true,true,true,true,true,true,true,true,true,true,true,true,true,true,true,true,true,false,true,true,true,false,false,false,false]) (by decide +kernel) ?_;clear x0 x1 x2 xl x3 x4 x5 xm y0 y1 y2 y3 y4 y5 y6 y7 yl;revert HX;revert wn;exact RS40_42_44_46)
   ·intro wn HX
    obtain ⟨x0,x1,x2,xl,x3,x4,x5,xm,y0,y1,y2,y3,y4,y5,y6,y7,yl⟩:=HK.out _ HX.out
    (refine rd [44,46] (.cons rfl (fun K hK => ?_) (.cons rfl (fun K hK => ?_) .nil)) <;> (go_simp;first | (refine hK _ _ ?_;clear hK K)))
    ·(refine wpAny_redo rfl (d':=#[true,true,true,true,true,true,true,true,true,true,true,true,true,true,true,true,true,true,true,true,true,true,true,true,true,true,true,true,true,true,true,true,true,true,true,true,true,true,true,true,true,true,true,true,true,true,false,false,false,false,false]) (by decide +kernel) ?_;clear x0 x1 x2 xl x3 x4 x5 xm y0 y1 y2 y3 y4 y5 y6 y7 yl;revert HX;revert wn;exact RS40_42_43_44)
    ·(refine wpAny_redo rfl (d':=#[true,true,true,true,true,true,true,true,true,true,true,true,true,true,true,true,true,true,true,true,true,true,true,true,true,true,true,true,true,true,true,true,true,true,true,true,true,true,true,true,true,true,true,true,false,true,true,false,false,false,false]) (by decide +kernel) ?_;clear x0 x1 x2 xl x3 x4 x5 xm y0 y1 y2 y3 y4 y5 y6 y7 yl;revert HX;revert wn;exact RS40_42_43_46)
   ·intro wn HX
    obtain ⟨x0,x1,x2,xl,x3,x4,x5,xm,y0,y1,y2,y3,y4,y5,y6,y7,yl⟩:=HK.out _ HX.out
    (refine rd [43] (.cons rfl (fun K hK => ?_) .nil) <;> (go_simp;first | (go_at_call 21;(with_reducible refine (CV1.out _ HX.out).mono ?_);rintro e wn ⟨rfl,hf⟩;replace HX:=hid (HX.out.trans hf);clear hf;clear x0 x1 x2 xl x3 x4 x5 xm y0 y1 y2 y3 y4 y5 y6 y7 yl;obtain ⟨x0,x1,x2,xl,x3,x4,x5,xm,y0,y1,y2,y3,y4,y5,y6,y7,yl⟩:=HK.out _ HX.out;refine hK _ _ ?_;clear hK K)))
    ·(refine wpAny_redo rfl (d':=#[true,true,true,true,true,true,true,true,true,true,true,true,true,true,true,true,true,true,true,true,true,true,true,true,true,true,true,true,true,true,true,true,true,true,true,true,true,true,true,true,true,true,true,true,true,true,true,false,false,false,false]) (by decide +kernel) ?_;clear x0 x1 x2 xl x3 x4 x5 xm y0 y1 y2 y3 y4 y5 y6 y7 yl;revert HX;revert wn;exact RS40_42_43_44_46)
   ·intro wn HX
    obtain ⟨x0,x1,x2,xl,x3,x4,x5,xm,y0,y1,y2,y3,y4,y5,y6,y7,yl⟩:=HK.out _ HX.out
    (refine rd [46] (.cons rfl (fun K hK => ?_) .nil) <;> (go_simp;first | (refine hK _ _ ?_;clear hK K)))
    ·(refine wpAny_redo rfl (d':=#[true,true,true,true,true,true,true,true,true,true,true,true,true,true,true,true,true,true,true,true,true,true,true,true,true,true,true,true,true,true,true,true,true,true,true,true,true,true,true,true,true,true,true,true,true,true,true,false,false,false,false]) (by decide +kernel) ?_;clear x0 x1 x2 xl x3 x4 x5 xm y0 y1 y2 y3 y4 y5 y6 y7 yl;revert HX;revert wn;exact RS40_42_43_44_46)
   ·intro wn HX
    obtain ⟨x0,x1,x2,xl,x3,x4,x5,xm,y0,y1,y2,y3,y4,y5,y6,y7,yl⟩:=HK.out _ HX.out
    (refine rd [44] (.cons rfl (fun K hK => ?_) .nil) <;> (go_simp;first | (refine hK _ _ ?_;clear hK K)))
    ·(refine wpAny_redo rfl (d':=#[true,true,true,true,true,true,true,true,true,true,true,true,true,true,true,true,true,true,true,true,true,true,true,true,true,true,true,true,true,true,true,true,true,true,true,true,true,true,true,true,true,true,true,true,true,true,true,false,false,false,false]) (by decide +kernel) ?_;clear x0 x1 x2 xl x3 x4 x5 xm y0 y1 y2 y3 y4 y5 y6 y7 yl;revert HX;revert wn;exact RS40_42_43_44_46)
   ·intro wn HX
    obtain ⟨x0,x1,x2,xl,x3,x4,x5,xm,y0,y1,y2,y3,y4,y5,y6,y7,yl⟩:=HK.out _ HX.out
    (refine rd [47] (.cons rfl (fun K hK => ?_) .nil) <;> (go_simp;first | (go_at_call 22;(with_reducible refine (CV2.out _ HX.out).mono ?_);rintro e wn ⟨rfl,hf⟩;replace HX:=hid (HX.out.trans hf);clear hf;clear x0 x1 x2 xl x3 x4 x5 xm y0 y1 y2 y3 y4 y5 y6 y7 yl;obtain ⟨x0,x1,x2,xl,x3,x4,x5,xm,y0,y1,y2,y3,y4,y5,y6,y7,yl⟩:=HK.out _ HX.out;refine hK _ _ ?_;clear hK K)))
    ·(refine wpAny_redo rfl (d':=#[true,true,true,true,true,true,true,true,true,true,true,true,true,true,true,true,true,true,true,true,true,true,true,true,true,true,true,true,true,true,true,true,true,true,true,true,true,true,true,true,true,true,true,true,true,true,true,true,false,false,false]) (by decide +kernel) ?_;clear x0 x1 x2 xl x3 x4 x5 xm y0 y1 y2 y3 y4 y5 y6 y7 yl;revert HX;revert wn;exact RS40_42_43_44_46_47)
   ·intro wn HX
    obtain ⟨x0,x1,x2,xl,x3,x4,x5,xm,y0,y1,y2,y3,y4,y5,y6,y7,yl⟩:=HK.out _ HX.out
    (refine rd [48] (.cons rfl (fun K hK => ?_) .nil);go_simp;refine hK _ _ ?_;clear hK K)
    (refine rd [49] (.cons rfl (fun K hK => ?_) .nil);go_simp;refine hK _ _ ?_;clear hK K)
    (refine rd [50] (.cons rfl (fun K hK => ?_) .nil);go_simp;refine hK _ _ ?_;clear hK K)
    refine wpAny_done (by decide +kernel) ?_ _
    try go_wp2_with fail
    go_ret
    exact ⟨rfl,HF2.out.trans HX.out⟩
end Go.Proofs.Ytcdlnhfgehhkcaa
