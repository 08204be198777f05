/- part of the proof -/
import Derived.Test.YtcdlnhfgehhkcaaQ34
import Derived.Test.YtcdlnhfgehhkcaaQ33
import Derived.Test.YtcdlnhfgehhkcaaQ28
set_option linter.unusedVariables false
set_option linter.unusedSimpArgs false
set_option linter.unusedSectionVars false
namespace Go.Proofs.Ytcdlnhfgehhkcaa
open Go.RowKit Go.Lib
open Un (kd nm ar size sizes over occ Res)
theorem ty_mk {t : Ty} {k i : Int} {al : List Ty} (h1 : kd t = k) (h2 : nm t = i) (h3 : ar t = al) : t = .mk k i al:=by
 cases t with
 | mk k' i' al' => simp only [kd,nm,ar] at h1 h2 h3;rw [h1,h2,h3]
set_option maxRecDepth 100000 in
set_option maxHeartbeats 3200000 in
theorem rename_var (B0 : Nat) (L : List Ty) (v : Value) (t : Ty) (cs : List Value) (w : World) (hB : B0 ≤ w.heap.size) (hv : TysV w (fun k => k < B0) L v) (h : TyV w (fun _ => True) t cs) (h9 : kd t = 9) (n : Nat) (hn : nm t = n) (y : Ty) (hy : L[n]? = some y) :
  Calls Try.prog 73 #[v,.agg cs.toArray] w (TyQ B0 y w):=by
 obtain ⟨T0,hT0⟩ : ∃ T0,T0 = w.heap.size:=⟨_,rfl⟩
 obtain ⟨p,c,rfl,ha⟩:=h.shape
 have hlm:=ha.len
 unfold maxLen at hlm
 have HB:=hid hB
 have HV:=hid hv
 have HT:=hid h
 obtain ⟨w1,hw1⟩ : ∃ w1,w1 = (w.alloc (.cells #[.int .i64 (kd t),.int .i64 (nm t),.slice p (ar t).length c] 24)).alloc (.cells #[.int .i64 0,.int .i64 0,.slice none 0 0] 24):=⟨_,rfl⟩
 have HF1 : Hid (Fr [] w w1):=hid (by rw [hw1];exact ((Fr.refl _ _).alloc _).alloc _)
 have HS1 : Hid (w1.heap.size = T0 + 2):=hid (by rw [hw1,hT0];simp)
 have HBT1 : Hid (Blk w1 T0 24 #[.int .i64 (kd t),.int .i64 (nm t),.slice p (ar t).length c]):=hid (by rw [hw1,hT0];exact (Blk.new _ _ _).alloc _)
 have HBR1 : Hid (Blk w1 (T0 + 1) 24 #[.int .i64 0,.int .i64 0,.slice none 0 0]):=hid (by rw [hw1,hT0];exact Blk.new_at (by simp))
 have HT0 : Hid (w.heap.size = T0):=hid hT0.symm
 obtain ⟨ps,kp,rfl⟩:=HV.out.shape
 obtain ⟨b,o,rfl,hat⟩:=TysV.elem HV.out hy
 have e1 : (kd t == 9) = true:=by simp [h9]
 have hnl : n < L.length:=(List.getElem?_eq_some_iff.1 hy).1
 have e4 : decide (n < L.length) = true:=by simpa using hnl
 have e5 : decide ((n : Int) < (L.length : Int)) = true:=by simp;omega
 have HLL:=hid HV.out.len
 have HN:=hid hn
 clear hv h ha h9 hB hn
 go_enter Try.func73,Try.ntmps73
 go_wp2_with fail
 rw [← hw1]
 clear hw1 hT0
 refine (rvariable_any t _ w1 _ (HT.out.keep0 HF1.out)).mono ?_
 rw [e1]
 rintro e w2 ⟨rfl,hf2⟩
 have HF2:=hid (HF1.out.trans hf2)
 have HBT2:=hid (HBT1.out.keep hf2 (by simp))
 have HBR2:=hid (HBR1.out.keep hf2 (by simp))
 obtain ⟨p1,c1,k1,hb,g0,g1,g2⟩:=hat.el HF2.out (by simp) hy
 have x1 : w2.cell? ⟨T0,1,none⟩ = some (.int .i64 n):=by rw [← HN.out];exact HBT2.out.cell 1
 have xl : T0 < w2.heap.size:=HBT2.out.lt
 have r0 : w2.cell? ⟨T0 + 1,0,none⟩ = some (.int .i64 0):=HBR2.out.cell 0
 have r1 : w2.cell? ⟨T0 + 1,1,none⟩ = some (.int .i64 0):=HBR2.out.cell 1
 have r2 : w2.cell? ⟨T0 + 1,2,none⟩ = some (.slice none 0 0):=HBR2.out.cell 2
 have f0:=HBR2.out.frozen 0
 have f1:=HBR2.out.frozen 1
 have f2:=HBR2.out.frozen 2
 have rl : T0 + 1 < w2.heap.size:=HBR2.out.lt
 have e6 : (n : Int) < (L.length : Int):=by omega
 rw [HT0.out]
 have K1:=hid k1
 clear hf2 e1 k1 hat hy
 go_wp2_with fail
 have hbx:=HBR2.out.set3 (.int .i64 (kd y)) (.int .i64 (nm y)) (.slice p1 (ar y).length c1)
 have x0:=hbx.cell 0
 have x1:=hbx.cell 1
 have x2:=hbx.cell 2
 have hfx:=HF2.out.set3 (b:=T0 + 1) (.inr (by have:=HT0.out;omega)) (.int .i64 (kd y)) (.int .i64 (nm y)) (.slice p1 (ar y).length c1)
 refine bodyPost_ret (v:=.agg #[.int .i64 (kd y),.int .i64 (nm y),.slice p1 (ar y).length c1]) (by simp [results,Try.results73,go_sem,x0,x1,x2]) rfl ⟨hfx,_,rfl,?_⟩
 have HBB:=HB.out
 have HTT:=HT0.out
 exact InN.mono (fun k hk hl => ⟨.inl hk,by simpa [World.setCell] using hl,set3_block _ _ _ (by omega)⟩) K1.out
theorem len_size {t : Ty} {B : Nat} (h : size t ≤ B) : (ar t).length ≤ B:=by have:=Un.sizes_len (ar t);have:=size_eq t;omega
inductive Wd : Ty → Prop
 | mk (k i : Int) (al : List Ty) (hl : al.length ≤ 100000) (h : ∀ a ∈ al,Wd a) : Wd (.mk k i al)
theorem wd_size : ∀ t : Ty,size t ≤ 100000 → Wd t:=by
 refine Un.Ty.ind fun k i al ih => ?_
 intro h
 exact .mk k i al (len_size (t:=.mk k i al) h) fun a ha => ih a ha (by have:=@Un.size_lt k i al a ha;omega)
theorem Wd.res {s : List Ty} (hs : ∀ x ∈ s,Wd x) {t z : Ty} (h : Res s t z) : Wd t → Wd z:=by
 induction h with
 | uns t n x h9 hn hx hu => exact id
 | sol t n x r h9 hn hx hu hr ih => exact fun _ => ih (hs x (List.mem_of_getElem? hx))
 | str k i al rs h9 hl hel ih =>
  intro ht
  cases ht with
  | mk _ _ _ hl2 h2 =>
   refine .mk k i rs (by omega) fun r hr => ?_
   obtain ⟨j,hj⟩:=List.mem_iff_getElem?.1 hr
   have hjl:=(List.getElem?_eq_some_iff.1 hj).1
   have ha:=List.getElem?_eq_getElem (l:=al) (i:=j) (by omega)
   exact ih j _ r ha hj (h2 _ (List.mem_of_getElem? ha))
theorem rename_any (B0 : Nat) (L : List Ty) (v : Value) {t : Ty} (hw : Wd t) : over L.length t = true → ∀ (cs : List Value) (w : World),B0 ≤ w.heap.size → TysV w (fun k => k < B0) L v → TyV w (fun _ => True) t cs →
  Calls Try.prog 73 #[v,.agg cs.toArray] w (TyQ B0 (Un.ap (Un.asg L) t) w):=by
 induction hw with
 | mk k i al hl hal ih =>
  intro ho cs w hB hv h
  by_cases h9 : k = 9
  ·subst h9
   obtain ⟨n0,n1,n2⟩:=Un.vin_var (Un.vin_of_over _ _ ho) (show kd (Ty.mk 9 i al) = 9 from rfl)
   obtain ⟨m',hm'⟩ : ∃ m' : Nat,nm (Ty.mk 9 i al) = m':=⟨(nm (Ty.mk 9 i al)).toNat,by omega⟩
   obtain ⟨y,hy⟩ : ∃ y,L[m']? = some y:=⟨_,List.getElem?_eq_getElem (by omega)⟩
   have e : Un.ap (Un.asg L) (.mk 9 i al) = y:=by
    rw [Un.ap_eq,if_pos (show kd (Ty.mk 9 i al) = 9 from rfl),hm']
    exact Un.asg_get hy
   rw [e]
   exact rename_var B0 L v _ cs w hB hv h rfl m' hm' _ hy
  ·rw [Un.over_mk h9,Bool.and_eq_true,List.all_eq_true] at ho
   rw [Un.ap_mk h9]
   refine rename_str B0 L v (.mk k i al) _ cs w hB hv h hl (by simp [ar]) (fun j x y hx hy cs wx hf hx2 => ?_) h9
   have hxm : x ∈ al:=List.mem_of_getElem? hx
   rw [List.getElem?_map,show al[j]? = some x from hx] at hy
   simp only [Option.map_some,Option.some.injEq] at hy
   rw [← hy]
   exact ih x hxm (ho.2 x hxm) cs wx (Nat.le_trans hB hf.size) (hv.keep0 hf) hx2
set_option maxRecDepth 100000 in
set_option maxHeartbeats 3200000 in
theorem rsubst_var (B0 : Nat) (L : List Ty) (v : Value) (t : Ty) (cs : List Value) (w : World) (hB : B0 ≤ w.heap.size) (hv : TysV w (fun k => k < B0) L v) (h : TyV w (fun _ => True) t cs) (h5 : kd t = 5) (n : Nat) (hn : nm t = n) (y : Ty) (hy : L[n]? = some y) :
  Calls Try.prog 18 #[v,.agg cs.toArray] w (TyQ B0 y w):=by
 obtain ⟨T0,hT0⟩ : ∃ T0,T0 = w.heap.size:=⟨_,rfl⟩
 obtain ⟨p,c,rfl,ha⟩:=h.shape
 have hlm:=ha.len
 unfold maxLen at hlm
 have HB:=hid hB
 have HV:=hid hv
 have HT:=hid h
 obtain ⟨w1,hw1⟩ : ∃ w1,w1 = (w.alloc (.cells #[.int .i64 (kd t),.int .i64 (nm t),.slice p (ar t).length c] 24)).alloc (.cells #[.int .i64 0,.int .i64 0,.slice none 0 0] 24):=⟨_,rfl⟩
 have HF1 : Hid (Fr [] w w1):=hid (by rw [hw1];exact ((Fr.refl _ _).alloc _).alloc _)
 have HS1 : Hid (w1.heap.size = T0 + 2):=hid (by rw [hw1,hT0];simp)
 have HBT1 : Hid (Blk w1 T0 24 #[.int .i64 (kd t),.int .i64 (nm t),.slice p (ar t).length c]):=hid (by rw [hw1,hT0];exact (Blk.new _ _ _).alloc _)
 have HBR1 : Hid (Blk w1 (T0 + 1) 24 #[.int .i64 0,.int .i64 0,.slice none 0 0]):=hid (by rw [hw1,hT0];exact Blk.new_at (by simp))
 have HT0 : Hid (w.heap.size = T0):=hid hT0.symm
 obtain ⟨ps,kp,rfl⟩:=HV.out.shape
 obtain ⟨b,o,rfl,hat⟩:=TysV.elem HV.out hy
 have hnl : n < L.length:=(List.getElem?_eq_some_iff.1 hy).1
 have e4 : decide (n < L.length) = true:=by simpa using hnl
 have e5 : decide ((n : Int) < (L.length : Int)) = true:=by simp;omega
 have e6 : (n : Int) < (L.length : Int):=by omega
 have HLL:=hid HV.out.len
 have HN:=hid hn
 have e1 : (kd t == 5) = true:=by simp [h5]
 have e2 : decide (0 ≤ (n : Int)) = true:=by simp
 obtain ⟨p1,c1,k1,hb,g0,g1,g2⟩:=hat.el (Fr.refl [] w) (by simp) hy
 have K1:=hid k1
 rw [hn] at HBT1 hw1
 rw [hn]
 clear hv h ha h5 hB hn k1 hat hy
 go_enter Try.func18,Try.ntmps18
 go_wp2_with fail
 obtain ⟨w9,hw9⟩ : ∃ w9,w9 = (w.alloc (.cells #[.int .i64 (kd t),.int .i64 n,.slice p (ar t).length c] 24)).alloc (.cells #[.int .i64 (kd y),.int .i64 (nm y),.slice p1 (ar y).length c1] 24):=⟨_,rfl⟩
 have hb9 : Blk w9 (w.heap.size + 1) 24 #[.int .i64 (kd y),.int .i64 (nm y),.slice p1 (ar y).length c1]:=by rw [hw9];exact Blk.new_at (by simp)
 have hf9 : Fr [] w w9:=by rw [hw9];exact ((Fr.refl _ _).alloc _).alloc _
 rw [← hw9]
 have x0:=hb9.cell 0
 have x1:=hb9.cell 1
 have x2:=hb9.cell 2
 refine bodyPost_ret (v:=.agg #[.int .i64 (kd y),.int .i64 (nm y),.slice p1 (ar y).length c1]) (by simp [results,Try.results18,go_sem,x0,x1,x2]) rfl ⟨hf9,_,rfl,?_⟩
 exact (TyV.weak K1.out (fun k _ hk => .inl hk)).keep0 hf9
set_option maxRecDepth 100000 in
set_option maxHeartbeats 3200000 in
theorem rapply_sol (B0 : Nat) (L : List Ty) (v : Value) (t : Ty) (cs : List Value) (w : World) (hB : B0 ≤ w.heap.size) (hv : TysV w (fun k => k < B0) L v) (h : TyV w (fun _ => True) t cs) (h9 : kd t = 9) (n : Nat) (hn : nm t = n) (x r : Ty) (hy : L[n]? = some x) (hk : kd x ≠ 0)
  (ih : ∀ (cs : List Value) (wx : World),Fr [] w wx → TyV wx (fun _ => True) x cs → Calls Try.prog 56 #[v,.agg cs.toArray] wx (TyQ B0 r wx)) :
  Calls Try.prog 56 #[v,.agg cs.toArray] w (TyQ B0 r w):=by
 obtain ⟨T0,hT0⟩ : ∃ T0,T0 = w.heap.size:=⟨_,rfl⟩
 obtain ⟨p,c,rfl,ha⟩:=h.shape
 have hlm:=ha.len
 unfold maxLen at hlm
 have HB:=hid hB
 have HV:=hid hv
 have HT:=hid h
 obtain ⟨w1,hw1⟩ : ∃ w1,w1 = (w.alloc (.cells #[.int .i64 (kd t),.int .i64 (nm t),.slice p (ar t).length c] 24)).alloc (.cells #[.int .i64 0,.int .i64 0,.slice none 0 0] 24):=⟨_,rfl⟩
 have HF1 : Hid (Fr [] w w1):=hid (by rw [hw1];exact ((Fr.refl _ _).alloc _).alloc _)
 have HS1 : Hid (w1.heap.size = T0 + 2):=hid (by rw [hw1,hT0];simp)
 have HBT1 : Hid (Blk w1 T0 24 #[.int .i64 (kd t),.int .i64 (nm t),.slice p (ar t).length c]):=hid (by rw [hw1,hT0];exact (Blk.new _ _ _).alloc _)
 have HBR1 : Hid (Blk w1 (T0 + 1) 24 #[.int .i64 0,.int .i64 0,.slice none 0 0]):=hid (by rw [hw1,hT0];exact Blk.new_at (by simp))
 have HT0 : Hid (w.heap.size = T0):=hid hT0.symm
 obtain ⟨ps,kp,rfl⟩:=HV.out.shape
 obtain ⟨b,o,rfl,hat⟩:=TysV.elem HV.out hy
 have hnl : n < L.length:=(List.getElem?_eq_some_iff.1 hy).1
 have e4 : decide (n < L.length) = true:=by simpa using hnl
 have e5 : decide ((n : Int) < (L.length : Int)) = true:=by simp;omega
 have e6 : (n : Int) < (L.length : Int):=by omega
 have HLL:=hid HV.out.len
 have HN:=hid hn
 have e1 : (kd t == 9) = true:=by simp [h9]
 have ek : (kd x != 0) = true:=by simp [hk]
 have IH:=hid ih
 clear hv h ha h9 hB hn ih hk
 go_enter Try.func56,Try.ntmps56
 go_wp2_with fail
 rw [← hw1]
 clear hw1 hT0
 refine (rvariable_any t _ w1 _ (HT.out.keep0 HF1.out)).mono ?_
 rw [e1]
 rintro e w2 ⟨rfl,hf2⟩
 have HF2:=hid (HF1.out.trans hf2)
 have HBT2:=hid (HBT1.out.keep hf2 (by simp))
 have HBR2:=hid (HBR1.out.keep hf2 (by simp))
 obtain ⟨p1,c1,k1,hb,g0,g1,g2⟩:=hat.el HF2.out (by simp) hy
 have x1 : w2.cell? ⟨T0,1,none⟩ = some (.int .i64 n):=by rw [← HN.out];exact HBT2.out.cell 1
 have xl : T0 < w2.heap.size:=HBT2.out.lt
 rw [HT0.out]
 have K1:=hid k1
 clear hf2 e1 k1 hat hy
 go_wp2_with fail
 refine (IH.out _ w2 HF2.out (TyV.weak K1.out (fun _ _ _ => trivial))).mono ?_
 rintro e w3 ⟨hf3,ds,rfl,hty⟩
 obtain ⟨p3,c3,rfl,_⟩:=hty.shape
 have HF3:=hid (HF2.out.trans hf3)
 have HBR3:=hid (HBR2.out.keep hf3 (by simp))
 have HTY:=hid hty
 have HSZ : Hid (T0 + 2 ≤ w2.heap.size):=hid (by have:=HBR2.out.lt;omega)
 clear hf3 hty g0 g1 g2 hb x1 xl
 have r0 : w3.cell? ⟨T0 + 1,0,none⟩ = some (.int .i64 0):=HBR3.out.cell 0
 have r1 : w3.cell? ⟨T0 + 1,1,none⟩ = some (.int .i64 0):=HBR3.out.cell 1
 have r2 : w3.cell? ⟨T0 + 1,2,none⟩ = some (.slice none 0 0):=HBR3.out.cell 2
 have f0:=HBR3.out.frozen 0
 have f1:=HBR3.out.frozen 1
 have f2:=HBR3.out.frozen 2
 have rl : T0 + 1 < w3.heap.size:=HBR3.out.lt
 go_wp2_with fail
 have hbx:=HBR3.out.set3 (.int .i64 (kd r)) (.int .i64 (nm r)) (.slice p3 (ar r).length c3)
 have x0:=hbx.cell 0
 have x1:=hbx.cell 1
 have x2:=hbx.cell 2
 have hfx:=HF3.out.set3 (b:=T0 + 1) (.inr (by have:=HT0.out;omega)) (.int .i64 (kd r)) (.int .i64 (nm r)) (.slice p3 (ar r).length c3)
 refine bodyPost_ret (v:=.agg #[.int .i64 (kd r),.int .i64 (nm r),.slice p3 (ar r).length c3]) (by simp [results,Try.results56,go_sem,x0,x1,x2]) rfl ⟨hfx,_,rfl,?_⟩
 have HBB:=HB.out
 have HTT:=HT0.out
 have HSS:=HSZ.out
 exact InN.mono (fun k hk hl => ⟨by rcases hk with hk | hk <;> omega,by simpa [World.setCell] using hl,set3_block _ _ _ (by rcases hk with hk | hk <;> omega)⟩) HTY.out
theorem rsubst_any (B0 : Nat) (L : List Ty) (v : Value) : ∀ (m : Nat) (t : Ty),size t ≤ m → m ≤ 100000 → ∀ (cs : List Value) (w : World),B0 ≤ w.heap.size → TysV w (fun k => k < B0) L v → TyV w (fun _ => True) t cs →
  Calls Try.prog 18 #[v,.agg cs.toArray] w (TyQ B0 (Un.subst L t) w):=by
 intro m
 induction m with
 | zero => intro t h;exact absurd (Un.size_pos t) (by omega)
 | succ m ih =>
  intro t hm hm2 cs w hB hv h
  have kids : ∀ (j : Nat) (x y : Ty),(ar t)[j]? = some x → ((ar t).map (Un.subst L))[j]? = some y → ∀ (cs : List Value) (wx : World),Fr [] w wx → TyV wx (fun _ => True) x cs → Calls Try.prog 18 #[v,.agg cs.toArray] wx (TyQ B0 y wx):=fun j x y hx hy cs wx hf hx2 => by
   have hxm:=List.mem_of_getElem? hx
   rw [List.getElem?_map,hx] at hy
   simp only [Option.map_some,Option.some.injEq] at hy
   rw [← hy]
   exact ih x (by have:=size_ar hxm;omega) (by omega) cs wx (Nat.le_trans hB hf.size) (hv.keep0 hf) hx2
  have heta : t = .mk (kd t) (nm t) (ar t):=ty_mk rfl rfl rfl
  by_cases hc : kd t = 5 ∧ 0 ≤ nm t ∧ nm t < L.length
  ·obtain ⟨y,hy⟩ : ∃ y,L[(nm t).toNat]? = some y:=⟨_,List.getElem?_eq_getElem (by omega)⟩
   have hR : Un.subst L t = y:=by
    have h2:=Un.subst_mk L (kd t) (nm t) (ar t)
    rw [← heta] at h2
    rw [h2]
    unfold Un.rep
    rw [if_pos hc,hy]
   rw [hR]
   exact rsubst_var B0 L v t cs w hB hv h hc.1 (nm t).toNat (by omega) _ hy
  ·have hR : Un.subst L t = .mk (kd t) (nm t) ((ar t).map (Un.subst L)):=by
    have h2:=Un.subst_mk L (kd t) (nm t) (ar t)
    rw [← heta] at h2
    rw [h2]
    unfold Un.rep
    rw [if_neg hc]
   rw [hR]
   by_cases h5 : kd t = 5
   ·by_cases h0 : nm t < 0
    ·exact rsubst_how B0 L v t _ cs w hB hv h (len_size (B:=100000) (by omega)) (by simp) kids (.inr (.inl ⟨h5,h0⟩))
    ·exact rsubst_how B0 L v t _ cs w hB hv h (len_size (B:=100000) (by omega)) (by simp) kids (.inr (.inr ⟨h5,by omega⟩))
   ·exact rsubst_how B0 L v t _ cs w hB hv h (len_size (B:=100000) (by omega)) (by simp) kids (.inl h5)
theorem rapply_any (B0 : Nat) (s : List Ty) (v : Value) (hs : Un.Okl s) (hz : ∀ x ∈ s,size x ≤ 100000) {t r : Ty} (hr : Res s t r) : over s.length t = true → size t ≤ 100000 → ∀ (cs : List Value) (w : World),B0 ≤ w.heap.size → TysV w (fun k => k < B0) s v → TyV w (fun _ => True) t cs →
  Calls Try.prog 56 #[v,.agg cs.toArray] w (TyQ B0 r w):=by
 induction hr with
 | uns t n x h9 hn hx hu =>
  intro ho hm cs w hB hv h
  have har:=(Un.vin_var (Un.vin_of_over _ _ ho) h9).2.2
  have e : t = .mk (kd t) (nm t) []:=ty_mk rfl rfl har
  have hzk : kd x = 0:=by
   rcases hs x (List.mem_of_getElem? hx) with rfl | h1
   ·rfl
   ·rw [Un.over_uns h1] at hu;cases hu
  have:=rapply_how B0 s v t [] cs w hB hv h (len_size hm) (by rw [har]) (fun j x y hx => by rw [har] at hx;simp at hx) (.inr ⟨h9,n,x,hn,hx,hzk⟩)
  rw [← e] at this
  exact this
 | sol t n x r h9 hn hx hu hr ih =>
  intro ho hm cs w hB hv h
  have hxo:=(hs x (List.mem_of_getElem? hx)).resolve_left (fun e => by subst e;cases hu)
  exact rapply_sol B0 s v t cs w hB hv h h9 n hn x r hx (Un.over_kd hxo) (fun cs wx hf hx2 => ih hxo (hz x (List.mem_of_getElem? hx)) cs wx (Nat.le_trans hB hf.size) (hv.keep0 hf) hx2)
 | str k i al rs h9 hl hel ih =>
  intro ho hm cs w hB hv h
  refine rapply_how B0 s v (.mk k i al) rs cs w hB hv h (len_size hm) hl (fun j x y hx hy cs wx hf hx2 => ?_) (.inl h9)
  have hxm : x ∈ al:=List.mem_of_getElem? hx
  rw [Un.over_mk h9,Bool.and_eq_true,List.all_eq_true] at ho
  exact ih j x y hx hy (ho.2 x hxm) (by have:=@Un.size_lt k i al x hxm;omega) cs wx (Nat.le_trans hB hf.size) (hv.keep0 hf) hx2
def ListP (l : List Ty) (w : World) (e : Ending) (w' : World) : Prop:=∃ v,e = .returned v ∧ TysV w' (fun _ => True) l v ∧ Fr [] w w'
theorem ElsA.tys {w : World} {K : Nat → Prop} {e cap : Nat} {l : List Ty} (h : ElsA w w K e cap l) (h0 : 0 < l.length) : TysV w (fun _ => True) l (.slice (some ⟨e,0,none⟩) l.length cap):=by
 obtain ⟨h1,h2,cs,h3,h4⟩:=h
 unfold TysV
 rw [InN]
 refine ⟨_,[],rfl,?_,by rw [InN]⟩
 refine .inr ⟨e,0,cap,cs.toList.take (l.length * 3),rfl,h0,h1,h2,trivial,h3.lt,?_,fun j hj => ?_,InN.weak h4 (fun _ _ _ => trivial)⟩
 ·have:=h4.len
  rw [rowsQ_ln ln_qTy] at this
  exact this
 ·rw [Nat.zero_add,h3.cell,List.getElem?_take,if_pos hj]
  simp
set_option maxRecDepth 100000 in
set_option maxHeartbeats 1600000 in
theorem bind_any (s : List Ty) (v : Value) (n : Nat) (t : Ty) (cs : List Value) (w : World) (hv : TysV w (fun _ => True) s v) (h : TyV w (fun _ => True) t cs) (hn : n < s.length) (hl : s.length ≤ 100000) :
  Calls Try.prog 72 #[v,.int .i64 n,.agg cs.toArray] w (ListP (s.set n t) w):=by
 have h0 : 0 < s.length:=by omega
 rcases hv.cases with ⟨rfl,_⟩ | ⟨_,b,o,cap,rfl,hc,hm,hat⟩
 ·simp at h0
 unfold maxLen at hm
 obtain ⟨_,hb,xs,hxs,hq⟩:=hat
 have hxl : xs.length = s.length * 3:=by rw [hq.len,rowsQ_ln ln_qTy]
 obtain ⟨p,c,rfl,_⟩:=h.shape
 obtain ⟨j0,hj0,jz0,jz1,jz2⟩:=info_parts info_ty
 have HJ0:=hid hj0
 have HJZ0:=hid jz0
 have HJZ1:=hid jz1
 have HJZ2:=hid jz2
 obtain ⟨w1,hw1⟩ : ∃ w1,w1 = (w.alloc (.cells #[.int .i64 (kd t),.int .i64 (nm t),.slice p (ar t).length c] 24)).alloc (.cells #[] 24):=⟨_,rfl⟩
 have HF1 : Hid (Fr [] w w1):=hid (by rw [hw1];exact ((Fr.refl _ _).alloc _).alloc _)
 have HB1 : Hid (Blk w1 w.heap.size 24 #[.int .i64 (kd t),.int .i64 (nm t),.slice p (ar t).length c]):=hid (by rw [hw1];exact (Blk.new _ _ _).alloc _)
 have HO1 : Hid (OwnL w1 (fun k => k < w.heap.size) (w.heap.size + 1) 24 3 0 .nil (.slice (some ⟨w.heap.size + 1,0,none⟩) 0 0)):=hid (OwnL.empty _ (Nat.le_refl _) (by rw [hw1];exact Blk.new_at (by simp)))
 have HC : Hid (∀ j u,xs[j]? = some u → w1.cell? ((⟨b,o,none⟩ : Addr).add j) = some u):=hid (fun j u hj => by
  rw [addr_add,HF1.out.cell hb (by simp),hxs j (by have:=(List.getElem?_eq_some_iff.1 hj).1;omega),hj])
 have HQ : Hid (InN w1 (fun k => k < w.heap.size ∧ some k ≠ (Value.slice (some ⟨w.heap.size + 1,0,none⟩) 0 0).ownBlock) (rowsQ qTy s) xs):=hid (hq.mono (fun k hN hk => ⟨⟨hk,by simp [Value.ownBlock];omega⟩,Nat.lt_of_lt_of_le hk HF1.out.size,HF1.out.block k hk (by simp)⟩))
 have HZ : Hid (w.heap.size + 1 ≤ w1.heap.size):=hid (by rw [hw1];simp)
 have HXL:=hid hxl
 have H0:=hid h0
 have HN:=hid hn
 have HT:=hid h
 obtain ⟨L,hL⟩ : ∃ L,L = s.length:=⟨_,rfl⟩
 have HL:=hid hL
 have e4 : decide (n < s.length) = true:=by simpa using hn
 have e5 : decide ((n : Int) < (s.length : Int)) = true:=by simp;omega
 have e6 : (n : Int) < (s.length : Int):=by omega
 clear hv hxs hq hxl hj0 jz0 jz1 jz2 h0 hL h
 go_enter Try.func72,Try.ntmps72
 go_wp2_with (at_builtin;go_loud (rw [← hw1];refine wpList_append_ownl _ rfl _ _ 22 rfl (fun k => k < w.heap.size) (w.heap.size + 1) 24 j0 _ 3 40 Try.underlying22 HJ0.out HJZ0.out HJZ1.out HJZ2.out rfl (by decide) _ 0 s.length .nil (rowsQ qTy s) rfl HO1.out ⟨b,o,none⟩ cap xs rfl HXL.out HC.out HQ.out (by omega) (by decide) HZ.out ?_;intro v' w2 hL2 hg2 hv2;rw [Nat.zero_add] at hL2;obtain ⟨e,cap2,rfl,he,hels⟩:=OwnL.els (l:=s) hL2 H0.out;have HE:=hid he;have HELS:=hid hels;have HF2 : Hid (Fr [w.heap.size + 1] w1 w2):=hid ((Fr.refl [w.heap.size + 1] w1).grown hg2 (fun k hk => .inl (by cases hk;simp)));have HB2:=hid (HB1.out.keep HF2.out (by simp));have x0:=HB2.out.cell 0;have x1:=HB2.out.cell 1;have x2:=HB2.out.cell 2;have xl:=HB2.out.lt;obtain ⟨p9,c9,_,y0,y1,y2,y3⟩:=hels.el (List.getElem?_eq_getElem hn);have z0:=y3 (n * 3);have z1:=y3 (n * 3 + 1);have z2:=y3 (n * 3 + 2);have yl:=hels.lt;clear hL2 hg2 hv2 he hels y3))
 go_ret
 have hf : Fr [] w w2:=(HF1.out.nil _ |>.trans HF2.out).sub (fun k hk => by rw [List.mem_singleton] at hk;subst hk;exact .inr (by omega))
 have hels : ElsA w2 w2 (fun k => k < w.heap.size) e cap2 s:=HELS.out.base (fun k hk hl => ⟨hk.1,hl,rfl⟩)
 have hset:=hels.set HN.out (t:=t) ((TyV.weak HT.out (fun k hk _ => hk)).keep0 hf)
 have hels2:=hset.base (w1:=((w2.setCell ⟨e,n * 3,none⟩ (.int .i64 (kd t))).setCell ⟨e,n * 3 + 1,none⟩ (.int .i64 (nm t))).setCell ⟨e,n * 3 + 2,none⟩ (.slice p (ar t).length c)) (K':=fun k => k < w.heap.size) (fun k hk hl => ⟨hk,by simpa [World.setCell] using hl,by
  rw [Below.heap_setCell _ _ _ _ (by have:=HE.out;show k ≠ e;omega),Below.heap_setCell _ _ _ _ (by have:=HE.out;show k ≠ e;omega),Below.heap_setCell _ _ _ _ (by have:=HE.out;show k ≠ e;omega)]⟩)
 have htys:=hels2.tys (by rw [List.length_set];exact H0.out)
 rw [List.length_set] at htys
 refine ⟨_,rfl,htys,?_⟩
 exact ((hf.setCell (.inr (by have:=HE.out;show w.heap.size ≤ e;omega)) _).setCell (.inr (by have:=HE.out;show w.heap.size ≤ e;omega)) _).setCell (.inr (by have:=HE.out;show w.heap.size ≤ e;omega)) _
namespace Un
def setB (kn : List Bool) (t : Ty) : Bool:=(List.range kn.length).all fun v => !(occ (v : Int) t) || (kn[v]?).getD false
theorem setB_iff {kn : List Bool} {t : Ty} : setB kn t = true ↔ ∀ v : Nat,v < kn.length → occ v t = true → kn[v]? = some true:=by
 unfold setB
 rw [List.all_eq_true]
 constructor
 ·intro h v hv ho
  have:=h v (List.mem_range.2 hv)
  rw [ho] at this
  rw [List.getElem?_eq_getElem hv] at this ⊢
  simpa using this
 ·intro h v hv
  have hvl:=List.mem_range.1 hv
  cases ho : occ (v : Int) t with
  | false => rfl
  | true => rw [h v hvl ho];rfl
theorem setB_var {kn : List Bool} {t : Ty} {n : Nat} (h9 : kd t = 9) (hn : nm t = n) {x : Bool} (hx : kn[n]? = some x) : setB kn t = x:=by
 have hnl:=(List.getElem?_eq_some_iff.1 hx).1
 cases x with
 | true =>
  rw [setB_iff]
  intro v hv ho
  rw [occ_eq,if_pos h9] at ho
  have : nm t = v:=by simpa using ho
  have : v = n:=by omega
  rw [this];exact hx
 | false =>
  cases h : setB kn t with
  | false => rfl
  | true =>
   have:=setB_iff.1 h n hnl (by rw [← hn];exact occ_self h9)
   rw [hx] at this;cases this
theorem setB_mk {kn : List Bool} {t : Ty} (h9 : kd t ≠ 9) : setB kn t = (ar t).all (setB kn):=by
 rw [Bool.eq_iff_iff,setB_iff,List.all_eq_true]
 have ho : ∀ v : Int,occ v t = (ar t).any (occ v):=fun v => by rw [occ_eq,if_neg h9]
 constructor
 ·intro h a ha
  rw [setB_iff]
  intro v hv hv2
  exact h v hv (by rw [ho,List.any_eq_true];exact ⟨a,ha,hv2⟩)
 ·intro h v hv hv2
  rw [ho,List.any_eq_true] at hv2
  obtain ⟨a,ha,h3⟩:=hv2
  exact setB_iff.1 (h a ha) v hv h3
def stepF (s : List Ty) (kn : List Bool) (i : Nat) : List Bool:=kn.set i ((kn[i]?).getD false || (match s[i]? with
 | some x => kd x == 0 || setB kn x
 | none => false))
def passF (s : List Ty) : Nat → List Bool → List Bool
 | 0,kn => kn
 | i + 1,kn => stepF s (passF s i kn) i
def roundsF (s : List Ty) : Nat → List Bool
 | 0 => List.replicate s.length false
 | k + 1 => passF s s.length (roundsF s k)
def goodT (n : Nat) (x : Ty) : Bool:=unsolved x || over n x
def boundedB (s : List Ty) : Bool:=(s.all (goodT s.length)) && (roundsF s s.length).all id
theorem passF_len (s : List Ty) : ∀ (i : Nat) (kn : List Bool),(passF s i kn).length = kn.length
 | 0,kn => rfl
 | i + 1,kn => by rw [passF,stepF,List.length_set,passF_len s i kn]
theorem roundsF_len (s : List Ty) : ∀ k,(roundsF s k).length = s.length
 | 0 => by simp [roundsF]
 | k + 1 => by rw [roundsF,passF_len,roundsF_len s k]
theorem stepF_get {s : List Ty} {kn : List Bool} {i e : Nat} (he : e < kn.length) : (stepF s kn i)[e]? = if e = i then some ((kn[i]?).getD false || (match s[i]? with
 | some x => kd x == 0 || setB kn x
 | none => false)) else kn[e]?:=by
 unfold stepF
 by_cases h : e = i
 ·subst h;rw [if_pos rfl,List.getElem?_set_self he]
 ·rw [if_neg h,List.getElem?_set_ne (by omega)]
theorem stepF_mono {s : List Ty} {kn : List Bool} {i e : Nat} (h : kn[e]? = some true) : (stepF s kn i)[e]? = some true:=by
 have he:=(List.getElem?_eq_some_iff.1 h).1
 rw [stepF_get he]
 by_cases h1 : e = i
 ·subst h1;rw [if_pos rfl,h];rfl
 ·rw [if_neg h1];exact h
theorem passF_mono {s : List Ty} {e : Nat} : ∀ {i : Nat} {kn : List Bool},kn[e]? = some true → (passF s i kn)[e]? = some true
 | 0,kn,h => h
 | i + 1,kn,h => by rw [passF];exact stepF_mono (passF_mono h)
def KR (s : List Ty) (kn : List Bool) : Prop:=kn.length = s.length ∧ ∃ rk : Nat → Nat,∀ (e v : Nat) (x : Ty),kn[e]? = some true → s[e]? = some x → v < s.length → occ v x = true → kn[v]? = some true ∧ rk v < rk e
theorem goodT_zero {n : Nat} {x : Ty} (h : goodT n x = true) : x = zero ∨ over n x = true:=by
 unfold goodT at h
 rw [Bool.or_eq_true] at h
 refine h.imp (fun hu => ?_) id
 unfold unsolved at hu
 simp only [Bool.and_eq_true,beq_iff_eq,List.isEmpty_iff] at hu
 cases x with
 | mk k i al => simp only [kd,nm,ar] at hu;rw [hu.1.1,hu.1.2,hu.2];rfl
theorem KR.step {s : List Ty} {kn : List Bool} (hg : ∀ x ∈ s,goodT s.length x = true) (h : KR s kn) (i : Nat) (hi : i < s.length) : KR s (stepF s kn i):=by
 obtain ⟨hl,rk,hk⟩:=h
 refine ⟨by unfold stepF;rw [List.length_set,hl],?_⟩
 obtain ⟨y,hy⟩ : ∃ y,s[i]? = some y:=⟨_,List.getElem?_eq_getElem hi⟩
 by_cases hki : kn[i]? = some true
 ·refine ⟨rk,fun e v x he hx hv ho => ?_⟩
  have he' : kn[e]? = some true:=by
   have hel:=(List.getElem?_eq_some_iff.1 hx).1
   rw [stepF_get (by omega)] at he
   by_cases h1 : e = i
   ·rw [h1];exact hki
   ·rwa [if_neg h1] at he
  obtain ⟨a,b⟩:=hk e v x he' hx hv ho
  exact ⟨stepF_mono a,b⟩
 ·obtain ⟨M,hM⟩:=rk_bound (E:=s) rk
  refine ⟨fun e => if e = i then M else rk e,fun e v x he hx hv ho => ?_⟩
  have hel:=(List.getElem?_eq_some_iff.1 hx).1
  have hvi : ∀ v,kn[v]? = some true → v ≠ i:=fun v h1 h2 => hki (by rw [← h2];exact h1)
  rw [stepF_get (by omega)] at he
  by_cases h1 : e = i
  ·subst h1
   rw [if_pos rfl,hy] at he
   rw [hy] at hx
   cases hx
   have h0 : (kn[e]?).getD false = false:=by
    cases hq : kn[e]? with
    | none => rfl
    | some b => cases b with
     | false => rfl
     | true => exact absurd hq hki
   rw [h0] at he
   simp only [Bool.false_or,Option.some.injEq,Bool.or_eq_true,beq_iff_eq] at he
   rcases he with he | he
   ·exfalso
    rcases goodT_zero (hg y (List.mem_of_getElem? hy)) with rfl | h2
    ·rw [occ_zero] at ho;cases ho
    ·exact over_kd h2 he
   ·have h2:=setB_iff.1 he v (by omega) ho
    refine ⟨stepF_mono h2,?_⟩
    show (if v = e then M else rk v) < (if e = e then M else rk e)
    rw [if_neg (hvi v h2),if_pos rfl]
    exact hM v hv
  ·rw [if_neg h1] at he
   obtain ⟨a,b⟩:=hk e v x he hx hv ho
   refine ⟨stepF_mono a,?_⟩
   show (if v = i then M else rk v) < (if e = i then M else rk e)
   rw [if_neg (hvi v a),if_neg h1]
   exact b
theorem KR.pass {s : List Ty} (hg : ∀ x ∈ s,goodT s.length x = true) : ∀ (i : Nat) {kn : List Bool},i ≤ s.length → KR s kn → KR s (passF s i kn)
 | 0,kn,_,h => h
 | i + 1,kn,hi,h => by rw [passF];exact (KR.pass hg i (by omega) h).step hg i (by omega)
theorem KR.rounds {s : List Ty} (hg : ∀ x ∈ s,goodT s.length x = true) : ∀ k,KR s (roundsF s k)
 | 0 => ⟨by simp [roundsF],fun _ => 0,fun e v x he => by
  rw [roundsF] at he
  have:=List.mem_of_getElem? he
  rw [List.mem_replicate] at this
  exact absurd this.2 (by decide)⟩
 | k + 1 => by rw [roundsF];exact (KR.rounds hg k).pass hg _ (Nat.le_refl _)
theorem filter_lt {α : Type} {p q : α → Bool} (h : ∀ x,p x = true → q x = true) : ∀ {l : List α} {y : α},y ∈ l → q y = true → p y = false → (l.filter p).length < (l.filter q).length
 | [],y,hy,_,_ => by cases hy
 | a :: l,y,hy,hq,hp => by
  have hle : ∀ l : List α,(l.filter p).length ≤ (l.filter q).length:=fun l => by
   induction l with
   | nil => simp
   | cons a l ih =>
    rw [List.filter_cons,List.filter_cons]
    cases hpa : p a with
    | true => rw [h a hpa];simpa using ih
    | false => cases q a <;> simp <;> omega
  rw [List.filter_cons,List.filter_cons]
  rcases List.mem_cons.1 hy with rfl | hy
  ·rw [hp,hq]
   have:=hle l
   simp
   omega
  ·have ih:=filter_lt h hy hq hp
   cases hpa : p a with
   | true => rw [h a hpa];simpa using ih
   | false => cases q a <;> simp <;> omega
theorem Ranked.small {s : List Ty} (h : Ranked s) : ∃ rk : Nat → Nat,Rk s rk ∧ ∀ v,v < s.length → rk v < s.length:=by
 obtain ⟨rk,hk⟩:=h.rk
 refine ⟨fun v => ((List.range s.length).filter fun u => decide (rk u < rk v)).length,fun e v x hx hv ho => ?_,fun v hv => ?_⟩
 ·have h1:=hk e v x hx hv ho
  exact filter_lt (fun u hu => by simp at hu ⊢;omega) (List.mem_range.2 hv) (by simpa using h1) (by simp)
 ·have h1:=filter_lt (p:=fun u => decide (rk u < rk v)) (q:=fun _ => true) (fun _ _ => rfl) (List.mem_range.2 hv) rfl (by simp)
  rw [List.filter_eq_self.2 (fun _ _ => rfl),List.length_range] at h1
  exact h1
theorem known_of_rank {s : List Ty} {rk : Nat → Nat} (hk : Rk s rk) (hl : ∀ k,(roundsF s k).length = s.length) : ∀ (k e : Nat),e < s.length → rk e < k → (roundsF s k)[e]? = some true
 | 0,e,he,h => by omega
 | k + 1,e,he,h => by
  rw [roundsF]
  obtain ⟨y,hy⟩ : ∃ y,s[e]? = some y:=⟨_,List.getElem?_eq_getElem he⟩
  have key : ∀ i,e < i → i ≤ s.length → (passF s i (roundsF s k))[e]? = some true:=by
   intro i
   induction i with
   | zero => intro h;omega
   | succ i ih =>
    intro h1 h2
    rw [passF]
    by_cases h3 : e = i
    ·subst h3
     rw [stepF_get (by rw [passF_len,hl];exact he),if_pos rfl,hy]
     have hset : setB (passF s e (roundsF s k)) y = true:=by
      rw [setB_iff]
      intro v hv ho
      rw [passF_len,hl] at hv
      exact passF_mono (known_of_rank hk hl k v hv (by have:=hk e v y hy hv ho;omega))
     simp [hset]
    ·exact stepF_mono (ih (by omega) (by omega))
  exact key s.length he (Nat.le_refl _)
theorem boundedB_iff {s : List Ty} : boundedB s = true ↔ (∀ x ∈ s,goodT s.length x = true) ∧ Ranked s:=by
 unfold boundedB
 rw [Bool.and_eq_true,List.all_eq_true,List.all_eq_true]
 constructor
 ·rintro ⟨hg,hall⟩
  refine ⟨hg,?_⟩
  obtain ⟨hl,rk,hk⟩:=KR.rounds hg s.length
  refine Rk.ranked (rk:=rk) (fun e v x hx hv ho => ?_)
  have hel:=(List.getElem?_eq_some_iff.1 hx).1
  have hke:=List.getElem?_eq_getElem (l:=roundsF s s.length) (i:=e) (by omega)
  have:=hall _ (List.mem_of_getElem? hke)
  simp only [id] at this
  rw [this] at hke
  exact (hk e v x hke hx hv ho).2
 ·rintro ⟨hg,hr⟩
  refine ⟨hg,fun b hb => ?_⟩
  obtain ⟨rk,hk,hlt⟩:=hr.small
  obtain ⟨e,he⟩:=List.mem_iff_getElem?.1 hb
  have hel:=(List.getElem?_eq_some_iff.1 he).1
  rw [roundsF_len] at hel
  have:=known_of_rank hk (roundsF_len s) s.length e hel (hlt e hel)
  rw [he] at this
  cases this
  rfl
end Un
end Go.Proofs.Ytcdlnhfgehhkcaa
