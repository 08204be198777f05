/- part of the proof -/
import Derived.Test.YtcdlnhfgehhkcaaQ35
import Derived.Test.YtcdlnhfgehhkcaaQ39
set_option linter.unusedVariables false
set_option linter.unusedSimpArgs false
set_option linter.unusedSectionVars false
namespace Go.Proofs.Ytcdlnhfgehhkcaa
open Go.RowKit Go.Lib
open Un (kd nm ar size sizes over occ Res rfind)
def SolveP (r : Option (List Ty)) (w : World) (e : Ending) (w' : World) : Prop:=Fr [] w w' ∧ match r with
 | none => e = .returned (.tuple #[.slice none 0 0,.bool false])
 | some s' => ∃ v',e = .returned (.tuple #[v',.bool true]) ∧ TysV w' (fun _ => True) s' v'
def Solves (s : List Ty) (a b : Ty) (r : Option (List Ty)) : Prop:=∀ (v : Value) (cs ds : List Value) (w : World),TysV w (fun _ => True) s v → TyV w (fun _ => True) a cs → TyV w (fun _ => True) b ds → Calls Try.prog 43 #[v,.agg cs.toArray,.agg ds.toArray] w (SolveP r w)
inductive SolveSeq : List Ty → List (Ty × Ty) → Option (List Ty) → Prop
 | nil (s) : SolveSeq s [] (some s)
 | fail (s a b ps) (h : Solves s a b none) : SolveSeq s ((a,b) :: ps) none
 | step (s a b ps s1 r) (h : Solves s a b (some s1)) (k : SolveSeq s1 ps r) : SolveSeq s ((a,b) :: ps) r
theorem cells3 {w : World} {b T : Nat} {x y z : Value} (h : Blk w b T #[x,y,z]) : w.cell? ⟨b,0,none⟩ = some x ∧ w.cell? ⟨b,1,none⟩ = some y ∧ w.cell? ⟨b,2,none⟩ = some z ∧ b < w.heap.size:=⟨h.cell 0,h.cell 1,h.cell 2,h.lt⟩
inductive SolveHow (s : List Ty) (x y : Ty) : Option (List Ty) → Prop
 | same (h9 : kd x = 9) (k9 : kd y = 9) (he : nm x = nm y) : SolveHow s x y (some s)
 | lt (h9 : kd x = 9) (k9 : kd y = 9) (m : Nat) (hm : nm y = m) (he : nm x < m) (hms : m < s.length) (hl : s.length ≤ 100000) : SolveHow s x y (some (s.set m x))
 | gt (h9 : kd x = 9) (k9 : kd y = 9) (m : Nat) (hm : nm x = m) (he : nm y < m) (hms : m < s.length) (hl : s.length ≤ 100000) : SolveHow s x y (some (s.set m y))
 | occL (h9 : kd x = 9) (k9 : kd y ≠ 9) (m : Nat) (hm : nm x = m) (hs : Un.Okl s) (ho1 : over s.length y = true) (z : Ty) (hz : Res s y z) (eo : occ m z = true) : SolveHow s x y none
 | bindL (h9 : kd x = 9) (k9 : kd y ≠ 9) (m : Nat) (hm : nm x = m) (hs : Un.Okl s) (ho1 : over s.length y = true) (z : Ty) (hz : Res s y z) (eo : occ m z = false) (hms : m < s.length) (hl : s.length ≤ 100000) : SolveHow s x y (some (s.set m y))
 | right (h9 : kd x ≠ 9) (k9 : kd y = 9) (r : Option (List Ty)) (hr : Solves s y x r) : SolveHow s x y r
 | clash1 (h9 : kd x ≠ 9) (k9 : kd y ≠ 9) (h1 : kd x ≠ kd y) : SolveHow s x y none
 | clash2 (h9 : kd x ≠ 9) (k9 : kd y ≠ 9) (h1 : kd x = kd y) (h2 : nm x ≠ nm y) : SolveHow s x y none
 | clash3 (h9 : kd x ≠ 9) (k9 : kd y ≠ 9) (h1 : kd x = kd y) (h2 : nm x = nm y) (h3 : (ar x).length ≠ (ar y).length) : SolveHow s x y none
 | args (h9 : kd x ≠ 9) (k9 : kd y ≠ 9) (h1 : kd x = kd y) (h2 : nm x = nm y) (n : Nat) (h3 : (ar x).length = n) (h4 : (ar y).length = n) (r : Option (List Ty)) (hseq : SolveSeq s ((ar x).zip (ar y)) r) : SolveHow s x y r
set_option maxRecDepth 100000 in
set_option maxHeartbeats 25600000 in
theorem solve_how (s : List Ty) (a b x y : Ty) (f : Nat) (hx : rfind s f a = some x) (hy : rfind s f b = some y) (r : Option (List Ty)) (how : SolveHow s x y r) : Solves s a b r:=by
 have HHOW:=hid how
 clear how
 intro v cs ds w hv ha hb
 obtain ⟨p,c,rfl,_⟩:=ha.shape
 obtain ⟨q,d,rfl,_⟩:=hb.shape
 have HTA : Hid (TyV w (fun k => k < w.heap.size) a [.int .i64 (kd a),.int .i64 (nm a),.slice p (ar a).length c]):=hid (TyV.weak ha (fun k hk _ => hk))
 have HTB : Hid (TyV w (fun k => k < w.heap.size) b [.int .i64 (kd b),.int .i64 (nm b),.slice q (ar b).length d]):=hid (TyV.weak hb (fun k hk _ => hk))
 have HV : Hid (TysV w (fun k => k < w.heap.size) s v):=hid (TysV.weak hv (fun k hk _ => hk))
 have HX:=hid hx
 have HY:=hid hy
 obtain ⟨w1,hw1⟩ : ∃ w1,w1 = (w.alloc (.cells #[.int .i64 (kd a),.int .i64 (nm a),.slice p (ar a).length c] 24)).alloc (.cells #[.int .i64 (kd b),.int .i64 (nm b),.slice q (ar b).length d] 24):=⟨_,rfl⟩
 have HF1 : Hid (Fr [] w w1):=hid (by rw [hw1];exact ((Fr.refl _ _).alloc _).alloc _)
 have HA1 : Hid (Blk w1 w.heap.size 24 #[.int .i64 (kd a),.int .i64 (nm a),.slice p (ar a).length c]):=hid (by rw [hw1];exact (Blk.new _ _ _).alloc _)
 have HB1 : Hid (Blk w1 (w.heap.size + 1) 24 #[.int .i64 (kd b),.int .i64 (nm b),.slice q (ar b).length d]):=hid (by rw [hw1];exact Blk.new_at (by simp))
 clear hv ha hb hx hy
 go_enter Try.func43,Try.ntmps43
 go_wp2_with fail
 rw [← hw1]
 clear hw1
 refine (findG_any _ s v a x f _ w1 (HV.out.keep0 HF1.out) (HTA.out.keep0 HF1.out) HX.out).mono ?_
 rintro e w2 ⟨hf2,es,rfl,hty⟩
 obtain ⟨p2,c2,rfl,_⟩:=hty.shape
 have HF2:=hid (HF1.out.trans hf2)
 have HA2:=hid (HA1.out.keep hf2 (by simp))
 have HB2:=hid (HB1.out.keep hf2 (by simp))
 have HTY:=hid hty
 clear hf2 hty
 have f0:=HA2.out.frozen 0
 have f1:=HA2.out.frozen 1
 have f2:=HA2.out.frozen 2
 obtain ⟨r0,r1,r2,rl⟩:=cells3 HA2.out
 obtain ⟨s0,s1,s2,sl⟩:=cells3 HB2.out
 go_wp2_with fail
 have HA3:=hid (HA2.out.set3 (.int .i64 (kd x)) (.int .i64 (nm x)) (.slice p2 (ar x).length c2))
 have HB3 : Hid (Blk (((w2.setCell ⟨w.heap.size,0,none⟩ (.int .i64 (kd x))).setCell ⟨w.heap.size,1,none⟩ (.int .i64 (nm x))).setCell ⟨w.heap.size,2,none⟩ (.slice p2 (ar x).length c2)) (w.heap.size + 1) 24 #[.int .i64 (kd b),.int .i64 (nm b),.slice q (ar b).length d]):=hid (((HB2.out.other (by show w.heap.size + 1 ≠ w.heap.size;omega) _).other (by show w.heap.size + 1 ≠ w.heap.size;omega) _).other (by show w.heap.size + 1 ≠ w.heap.size;omega) _)
 have HF3:=hid (HF2.out.set3 (b:=w.heap.size) (.inr (Nat.le_refl _)) (.int .i64 (kd x)) (.int .i64 (nm x)) (.slice p2 (ar x).length c2))
 have HTX3 : Hid (TyV (((w2.setCell ⟨w.heap.size,0,none⟩ (.int .i64 (kd x))).setCell ⟨w.heap.size,1,none⟩ (.int .i64 (nm x))).setCell ⟨w.heap.size,2,none⟩ (.slice p2 (ar x).length c2)) (fun k => k < w.heap.size) x [.int .i64 (kd x),.int .i64 (nm x),.slice p2 (ar x).length c2]):=hid (InN.mono (fun k hk hl => ⟨hk,by simpa [World.setCell] using hl,set3_block _ _ _ (by omega)⟩) HTY.out)
 generalize ((w2.setCell ⟨w.heap.size,0,none⟩ (.int .i64 (kd x))).setCell ⟨w.heap.size,1,none⟩ (.int .i64 (nm x))).setCell ⟨w.heap.size,2,none⟩ (.slice p2 (ar x).length c2) = w3 at HA3 HB3 HF3 HTX3
 clear f0 f1 f2 r0 r1 r2 rl s0 s1 s2 sl HA2 HB2 HF2 HTY
 refine (findG_any _ s v b y f _ w3 (HV.out.keep0 HF3.out) (HTB.out.keep0 HF3.out) HY.out).mono ?_
 rintro e w4 ⟨hf4,es,rfl,hty⟩
 obtain ⟨p3,c3,rfl,_⟩:=hty.shape
 have HF4:=hid (HF3.out.trans hf4)
 have HA4:=hid (HA3.out.keep hf4 (by simp))
 have HB4:=hid (HB3.out.keep hf4 (by simp))
 have HTX4:=hid (HTX3.out.keep0 hf4)
 have HTY:=hid hty
 clear hf4 hty
 have f0:=HB4.out.frozen 0
 have f1:=HB4.out.frozen 1
 have f2:=HB4.out.frozen 2
 obtain ⟨r0,r1,r2,rl⟩:=cells3 HA4.out
 obtain ⟨s0,s1,s2,sl⟩:=cells3 HB4.out
 go_wp2_with fail
 have HB5:=hid (HB4.out.set3 (.int .i64 (kd y)) (.int .i64 (nm y)) (.slice p3 (ar y).length c3))
 have HA5 : Hid (Blk (((w4.setCell ⟨w.heap.size + 1,0,none⟩ (.int .i64 (kd y))).setCell ⟨w.heap.size + 1,1,none⟩ (.int .i64 (nm y))).setCell ⟨w.heap.size + 1,2,none⟩ (.slice p3 (ar y).length c3)) w.heap.size 24 #[.int .i64 (kd x),.int .i64 (nm x),.slice p2 (ar x).length c2]):=hid (((HA4.out.other (by show w.heap.size ≠ w.heap.size + 1;omega) _).other (by show w.heap.size ≠ w.heap.size + 1;omega) _).other (by show w.heap.size ≠ w.heap.size + 1;omega) _)
 have HF5:=hid (HF4.out.set3 (b:=w.heap.size + 1) (.inr (by omega)) (.int .i64 (kd y)) (.int .i64 (nm y)) (.slice p3 (ar y).length c3))
 have HTX5 : Hid (TyV (((w4.setCell ⟨w.heap.size + 1,0,none⟩ (.int .i64 (kd y))).setCell ⟨w.heap.size + 1,1,none⟩ (.int .i64 (nm y))).setCell ⟨w.heap.size + 1,2,none⟩ (.slice p3 (ar y).length c3)) (fun k => k < w.heap.size) x [.int .i64 (kd x),.int .i64 (nm x),.slice p2 (ar x).length c2]):=hid (InN.mono (fun k hk hl => ⟨hk,by simpa [World.setCell] using hl,set3_block _ _ _ (by omega)⟩) HTX4.out)
 have HTY5 : Hid (TyV (((w4.setCell ⟨w.heap.size + 1,0,none⟩ (.int .i64 (kd y))).setCell ⟨w.heap.size + 1,1,none⟩ (.int .i64 (nm y))).setCell ⟨w.heap.size + 1,2,none⟩ (.slice p3 (ar y).length c3)) (fun k => k < w.heap.size) y [.int .i64 (kd y),.int .i64 (nm y),.slice p3 (ar y).length c3]):=hid (InN.mono (fun k hk hl => ⟨hk,by simpa [World.setCell] using hl,set3_block _ _ _ (by omega)⟩) HTY.out)
 generalize ((w4.setCell ⟨w.heap.size + 1,0,none⟩ (.int .i64 (kd y))).setCell ⟨w.heap.size + 1,1,none⟩ (.int .i64 (nm y))).setCell ⟨w.heap.size + 1,2,none⟩ (.slice p3 (ar y).length c3) = w5 at HA5 HB5 HF5 HTX5 HTY5
 clear f0 f1 f2 r0 r1 r2 rl s0 s1 s2 sl HA4 HB4 HF4 HTY HTX3 HTX4 HA3 HB3 HF3 HA1 HB1 HF1
 have how:=HHOW.out
 clear HHOW
 cases how with
 | same h9 k9 he =>
  have e1 : (kd x == 9) = true:=by simp [h9]
  have e2 : (kd y == 9) = true:=by simp [k9]
  have e3 : (nm x == nm y) = true:=by simp [he]
  clear h9 k9 he
  refine (rvariable_any x _ w5 _ HTX5.out).mono ?_
  rw [e1]
  rintro e w6 ⟨rfl,hf6⟩
  have HF6:=hid (HF5.out.trans hf6)
  have HA6:=hid (HA5.out.keep hf6 (by simp))
  have HB6:=hid (HB5.out.keep hf6 (by simp))
  have HTX6:=hid (HTX5.out.keep0 hf6)
  have HTY6:=hid (HTY5.out.keep0 hf6)
  clear hf6 HF5 HA5 HB5 HTX5 HTY5
  try clear r0 r1 r2 rl s0 s1 s2 sl
  obtain ⟨r0,r1,r2,rl⟩:=cells3 HA6.out
  obtain ⟨s0,s1,s2,sl⟩:=cells3 HB6.out
  go_wp2_with fail
  refine (rvariable_any y _ w6 _ HTY6.out).mono ?_
  rw [e2]
  rintro e w7 ⟨rfl,hf7⟩
  have HF7:=hid (HF6.out.trans hf7)
  have HA7:=hid (HA6.out.keep hf7 (by simp))
  have HB7:=hid (HB6.out.keep hf7 (by simp))
  have HTX7:=hid (HTX6.out.keep0 hf7)
  have HTY7:=hid (HTY6.out.keep0 hf7)
  clear hf7 HF6 HA6 HB6 HTX6 HTY6
  try clear r0 r1 r2 rl s0 s1 s2 sl
  obtain ⟨r0,r1,r2,rl⟩:=cells3 HA7.out
  obtain ⟨s0,s1,s2,sl⟩:=cells3 HB7.out
  go_wp2_with fail
  exact bodyPost_ret (v:=.tuple #[v,.bool true]) (by simp [results,Try.results43,go_sem]) rfl ⟨HF7.out,v,rfl,TysV.weak (HV.out.keep0 HF7.out) (fun _ _ _ => trivial)⟩
 | lt h9 k9 m hm he hms hl =>
  have e1 : (kd x == 9) = true:=by simp [h9]
  have e2 : (kd y == 9) = true:=by simp [k9]
  have e3 : (nm x == (m : Int)) = false:=by simp;omega
  have e4 : decide (nm x < (m : Int)) = true:=by simpa using he
  have HM:=hid hm
  clear h9 k9 he hm
  refine (rvariable_any x _ w5 _ HTX5.out).mono ?_
  rw [e1]
  rintro e w6 ⟨rfl,hf6⟩
  have HF6:=hid (HF5.out.trans hf6)
  have HA6:=hid (HA5.out.keep hf6 (by simp))
  have HB6:=hid (HB5.out.keep hf6 (by simp))
  have HTX6:=hid (HTX5.out.keep0 hf6)
  have HTY6:=hid (HTY5.out.keep0 hf6)
  clear hf6 HF5 HA5 HB5 HTX5 HTY5
  try clear r0 r1 r2 rl s0 s1 s2 sl
  obtain ⟨r0,r1,r2,rl⟩:=cells3 HA6.out
  obtain ⟨s0,s1,s2,sl⟩:=cells3 HB6.out
  go_wp2_with fail
  refine (rvariable_any y _ w6 _ HTY6.out).mono ?_
  rw [e2]
  rw [HM.out] at HB6
  rintro e w7 ⟨rfl,hf7⟩
  have HF7:=hid (HF6.out.trans hf7)
  have HA7:=hid (HA6.out.keep hf7 (by simp))
  have HB7:=hid (HB6.out.keep hf7 (by simp))
  have HTX7:=hid (HTX6.out.keep0 hf7)
  have HTY7:=hid (HTY6.out.keep0 hf7)
  clear hf7 HF6 HA6 HB6 HTX6 HTY6
  try clear r0 r1 r2 rl s0 s1 s2 sl
  obtain ⟨r0,r1,r2,rl⟩:=cells3 HA7.out
  obtain ⟨s0,s1,s2,sl⟩:=cells3 HB7.out
  go_wp2_with fail
  refine (bind_any s v m x _ w7 (TysV.weak (HV.out.keep0 HF7.out) (fun _ _ _ => trivial)) (TyV.weak HTX7.out (fun _ _ _ => trivial)) (by assumption) (by assumption)).mono ?_
  rintro e wb ⟨vb,rfl,hvb,hfb⟩
  have HVB:=hid hvb
  have HFB:=hid (HF7.out.trans hfb)
  clear hvb hfb r0 r1 r2 rl s0 s1 s2 sl
  go_wp2_with fail
  exact bodyPost_ret (v:=.tuple #[vb,.bool true]) (by simp [results,Try.results43,go_sem]) rfl ⟨HFB.out,vb,rfl,HVB.out⟩
 | gt h9 k9 m hm he hms hl =>
  have e1 : (kd x == 9) = true:=by simp [h9]
  have e2 : (kd y == 9) = true:=by simp [k9]
  have e3 : ((m : Int) == nm y) = false:=by simp;omega
  have e4 : decide ((m : Int) < nm y) = false:=by simp;omega
  have HM:=hid hm
  clear h9 k9 he hm
  refine (rvariable_any x _ w5 _ HTX5.out).mono ?_
  rw [e1]
  rintro e w6 ⟨rfl,hf6⟩
  have HF6:=hid (HF5.out.trans hf6)
  have HA6:=hid (HA5.out.keep hf6 (by simp))
  have HB6:=hid (HB5.out.keep hf6 (by simp))
  have HTX6:=hid (HTX5.out.keep0 hf6)
  have HTY6:=hid (HTY5.out.keep0 hf6)
  clear hf6 HF5 HA5 HB5 HTX5 HTY5
  try clear r0 r1 r2 rl s0 s1 s2 sl
  obtain ⟨r0,r1,r2,rl⟩:=cells3 HA6.out
  obtain ⟨s0,s1,s2,sl⟩:=cells3 HB6.out
  go_wp2_with fail
  refine (rvariable_any y _ w6 _ HTY6.out).mono ?_
  rw [e2]
  rw [HM.out] at HA6
  rintro e w7 ⟨rfl,hf7⟩
  have HF7:=hid (HF6.out.trans hf7)
  have HA7:=hid (HA6.out.keep hf7 (by simp))
  have HB7:=hid (HB6.out.keep hf7 (by simp))
  have HTX7:=hid (HTX6.out.keep0 hf7)
  have HTY7:=hid (HTY6.out.keep0 hf7)
  clear hf7 HF6 HA6 HB6 HTX6 HTY6
  try clear r0 r1 r2 rl s0 s1 s2 sl
  obtain ⟨r0,r1,r2,rl⟩:=cells3 HA7.out
  obtain ⟨s0,s1,s2,sl⟩:=cells3 HB7.out
  go_wp2_with fail
  refine (bind_any s v m y _ w7 (TysV.weak (HV.out.keep0 HF7.out) (fun _ _ _ => trivial)) (TyV.weak HTY7.out (fun _ _ _ => trivial)) (by assumption) (by assumption)).mono ?_
  rintro e wb ⟨vb,rfl,hvb,hfb⟩
  have HVB:=hid hvb
  have HFB:=hid (HF7.out.trans hfb)
  clear hvb hfb r0 r1 r2 rl s0 s1 s2 sl
  go_wp2_with fail
  exact bodyPost_ret (v:=.tuple #[vb,.bool true]) (by simp [results,Try.results43,go_sem]) rfl ⟨HFB.out,vb,rfl,HVB.out⟩
 | occL h9 k9 m hm hs ho1 z hz eo =>
  have e1 : (kd x == 9) = true:=by simp [h9]
  have e2 : (kd y == 9) = false:=by simp [k9]
  have HM:=hid hm
  have HS:=hid hs
  have HOV:=hid ho1
  have HZ:=hid hz
  clear h9 k9 hm hs ho1 hz
  refine (rvariable_any x _ w5 _ HTX5.out).mono ?_
  rw [e1]
  rintro e w6 ⟨rfl,hf6⟩
  have HF6:=hid (HF5.out.trans hf6)
  have HA6:=hid (HA5.out.keep hf6 (by simp))
  have HB6:=hid (HB5.out.keep hf6 (by simp))
  have HTX6:=hid (HTX5.out.keep0 hf6)
  have HTY6:=hid (HTY5.out.keep0 hf6)
  clear hf6 HF5 HA5 HB5 HTX5 HTY5
  try clear r0 r1 r2 rl s0 s1 s2 sl
  obtain ⟨r0,r1,r2,rl⟩:=cells3 HA6.out
  obtain ⟨s0,s1,s2,sl⟩:=cells3 HB6.out
  go_wp2_with fail
  refine (rvariable_any y _ w6 _ HTY6.out).mono ?_
  rw [e2]
  rintro e w7 ⟨rfl,hf7⟩
  have HF7:=hid (HF6.out.trans hf7)
  have HA7:=hid (HA6.out.keep hf7 (by simp))
  have HB7:=hid (HB6.out.keep hf7 (by simp))
  have HTX7:=hid (HTX6.out.keep0 hf7)
  have HTY7:=hid (HTY6.out.keep0 hf7)
  clear hf7 HF6 HA6 HB6 HTX6 HTY6
  try clear r0 r1 r2 rl s0 s1 s2 sl
  obtain ⟨r0,r1,r2,rl⟩:=cells3 HA7.out
  obtain ⟨s0,s1,s2,sl⟩:=cells3 HB7.out
  go_wp2_with fail
  refine (rvariable_any x _ w7 _ HTX7.out).mono ?_
  rw [e1]
  rintro e w8 ⟨rfl,hf8⟩
  have HF8:=hid (HF7.out.trans hf8)
  have HA8:=hid (HA7.out.keep hf8 (by simp))
  rw [HM.out] at HA8
  have HB8:=hid (HB7.out.keep hf8 (by simp))
  have HTX8:=hid (HTX7.out.keep0 hf8)
  have HTY8:=hid (HTY7.out.keep0 hf8)
  clear hf8 HF7 HA7 HB7 HTX7 HTY7
  try clear r0 r1 r2 rl s0 s1 s2 sl
  obtain ⟨r0,r1,r2,rl⟩:=cells3 HA8.out
  obtain ⟨s0,s1,s2,sl⟩:=cells3 HB8.out
  go_wp2_with fail
  obtain ⟨g2,y2,hg2,_⟩:=Un.rfind_res HS.out HZ.out
  refine (occursG_any s v m HS.out HZ.out HOV.out y y2 g2 g2 hg2 hg2 _ w8 (TysV.weak (HV.out.keep0 HF8.out) (fun _ _ _ => trivial)) (TyV.weak HTY8.out (fun _ _ _ => trivial))).mono ?_
  rw [eo]
  rintro e w9 ⟨rfl,hf9⟩
  have HF9:=hid (HF8.out.trans hf9)
  have HA9:=hid (HA8.out.keep hf9 (by simp))
  have HB9:=hid (HB8.out.keep hf9 (by simp))
  have HTX9:=hid (HTX8.out.keep0 hf9)
  have HTY9:=hid (HTY8.out.keep0 hf9)
  clear hf9 HF8 HA8 HB8 HTX8 HTY8 hg2
  clear r0 r1 r2 rl s0 s1 s2 sl
  go_wp2_with fail
  exact bodyPost_ret (v:=.tuple #[.slice none 0 0,.bool false]) (by simp [results,Try.results43,go_sem]) rfl ⟨HF9.out,rfl⟩
 | bindL h9 k9 m hm hs ho1 z hz eo hms hl =>
  have e1 : (kd x == 9) = true:=by simp [h9]
  have e2 : (kd y == 9) = false:=by simp [k9]
  have HM:=hid hm
  have HS:=hid hs
  have HOV:=hid ho1
  have HZ:=hid hz
  clear h9 k9 hm hs ho1 hz
  refine (rvariable_any x _ w5 _ HTX5.out).mono ?_
  rw [e1]
  rintro e w6 ⟨rfl,hf6⟩
  have HF6:=hid (HF5.out.trans hf6)
  have HA6:=hid (HA5.out.keep hf6 (by simp))
  have HB6:=hid (HB5.out.keep hf6 (by simp))
  have HTX6:=hid (HTX5.out.keep0 hf6)
  have HTY6:=hid (HTY5.out.keep0 hf6)
  clear hf6 HF5 HA5 HB5 HTX5 HTY5
  try clear r0 r1 r2 rl s0 s1 s2 sl
  obtain ⟨r0,r1,r2,rl⟩:=cells3 HA6.out
  obtain ⟨s0,s1,s2,sl⟩:=cells3 HB6.out
  go_wp2_with fail
  refine (rvariable_any y _ w6 _ HTY6.out).mono ?_
  rw [e2]
  rintro e w7 ⟨rfl,hf7⟩
  have HF7:=hid (HF6.out.trans hf7)
  have HA7:=hid (HA6.out.keep hf7 (by simp))
  have HB7:=hid (HB6.out.keep hf7 (by simp))
  have HTX7:=hid (HTX6.out.keep0 hf7)
  have HTY7:=hid (HTY6.out.keep0 hf7)
  clear hf7 HF6 HA6 HB6 HTX6 HTY6
  try clear r0 r1 r2 rl s0 s1 s2 sl
  obtain ⟨r0,r1,r2,rl⟩:=cells3 HA7.out
  obtain ⟨s0,s1,s2,sl⟩:=cells3 HB7.out
  go_wp2_with fail
  refine (rvariable_any x _ w7 _ HTX7.out).mono ?_
  rw [e1]
  rintro e w8 ⟨rfl,hf8⟩
  have HF8:=hid (HF7.out.trans hf8)
  have HA8:=hid (HA7.out.keep hf8 (by simp))
  rw [HM.out] at HA8
  have HB8:=hid (HB7.out.keep hf8 (by simp))
  have HTX8:=hid (HTX7.out.keep0 hf8)
  have HTY8:=hid (HTY7.out.keep0 hf8)
  clear hf8 HF7 HA7 HB7 HTX7 HTY7
  try clear r0 r1 r2 rl s0 s1 s2 sl
  obtain ⟨r0,r1,r2,rl⟩:=cells3 HA8.out
  obtain ⟨s0,s1,s2,sl⟩:=cells3 HB8.out
  go_wp2_with fail
  obtain ⟨g2,y2,hg2,_⟩:=Un.rfind_res HS.out HZ.out
  refine (occursG_any s v m HS.out HZ.out HOV.out y y2 g2 g2 hg2 hg2 _ w8 (TysV.weak (HV.out.keep0 HF8.out) (fun _ _ _ => trivial)) (TyV.weak HTY8.out (fun _ _ _ => trivial))).mono ?_
  rw [eo]
  rintro e w9 ⟨rfl,hf9⟩
  have HF9:=hid (HF8.out.trans hf9)
  have HA9:=hid (HA8.out.keep hf9 (by simp))
  have HB9:=hid (HB8.out.keep hf9 (by simp))
  have HTX9:=hid (HTX8.out.keep0 hf9)
  have HTY9:=hid (HTY8.out.keep0 hf9)
  clear hf9 HF8 HA8 HB8 HTX8 HTY8 hg2
  try clear r0 r1 r2 rl s0 s1 s2 sl
  obtain ⟨r0,r1,r2,rl⟩:=cells3 HA9.out
  obtain ⟨s0,s1,s2,sl⟩:=cells3 HB9.out
  go_wp2_with fail
  refine (bind_any s v m y _ w9 (TysV.weak (HV.out.keep0 HF9.out) (fun _ _ _ => trivial)) (TyV.weak HTY9.out (fun _ _ _ => trivial)) (by assumption) (by assumption)).mono ?_
  rintro e wb ⟨vb,rfl,hvb,hfb⟩
  have HVB:=hid hvb
  have HFB:=hid (HF9.out.trans hfb)
  clear hvb hfb r0 r1 r2 rl s0 s1 s2 sl
  go_wp2_with fail
  exact bodyPost_ret (v:=.tuple #[vb,.bool true]) (by simp [results,Try.results43,go_sem]) rfl ⟨HFB.out,vb,rfl,HVB.out⟩
 | right h9 k9 r hr =>
  have e1 : (kd x == 9) = false:=by simp [h9]
  have e2 : (kd y == 9) = true:=by simp [k9]
  have HR:=hid hr
  clear h9 k9 hr
  refine (rvariable_any x _ w5 _ HTX5.out).mono ?_
  rw [e1]
  rintro e w6 ⟨rfl,hf6⟩
  have HF6:=hid (HF5.out.trans hf6)
  have HA6:=hid (HA5.out.keep hf6 (by simp))
  have HB6:=hid (HB5.out.keep hf6 (by simp))
  have HTX6:=hid (HTX5.out.keep0 hf6)
  have HTY6:=hid (HTY5.out.keep0 hf6)
  clear hf6 HF5 HA5 HB5 HTX5 HTY5
  try clear r0 r1 r2 rl s0 s1 s2 sl
  obtain ⟨r0,r1,r2,rl⟩:=cells3 HA6.out
  obtain ⟨s0,s1,s2,sl⟩:=cells3 HB6.out
  go_wp2_with fail
  refine (rvariable_any x _ w6 _ HTX6.out).mono ?_
  rw [e1]
  rintro e w7 ⟨rfl,hf7⟩
  have HF7:=hid (HF6.out.trans hf7)
  have HA7:=hid (HA6.out.keep hf7 (by simp))
  have HB7:=hid (HB6.out.keep hf7 (by simp))
  have HTX7:=hid (HTX6.out.keep0 hf7)
  have HTY7:=hid (HTY6.out.keep0 hf7)
  clear hf7 HF6 HA6 HB6 HTX6 HTY6
  try clear r0 r1 r2 rl s0 s1 s2 sl
  obtain ⟨r0,r1,r2,rl⟩:=cells3 HA7.out
  obtain ⟨s0,s1,s2,sl⟩:=cells3 HB7.out
  go_wp2_with fail
  refine (rvariable_any y _ w7 _ HTY7.out).mono ?_
  rw [e2]
  rintro e w8 ⟨rfl,hf8⟩
  have HF8:=hid (HF7.out.trans hf8)
  have HA8:=hid (HA7.out.keep hf8 (by simp))
  have HB8:=hid (HB7.out.keep hf8 (by simp))
  have HTX8:=hid (HTX7.out.keep0 hf8)
  have HTY8:=hid (HTY7.out.keep0 hf8)
  clear hf8 HF7 HA7 HB7 HTX7 HTY7
  try clear r0 r1 r2 rl s0 s1 s2 sl
  obtain ⟨r0,r1,r2,rl⟩:=cells3 HA8.out
  obtain ⟨s0,s1,s2,sl⟩:=cells3 HB8.out
  go_wp2_with fail
  refine (HR.out v _ _ w8 (TysV.weak (HV.out.keep0 HF8.out) (fun _ _ _ => trivial)) (TyV.weak HTY8.out (fun _ _ _ => trivial)) (TyV.weak HTX8.out (fun _ _ _ => trivial))).mono ?_
  clear r0 r1 r2 rl s0 s1 s2 sl
  cases r with
  | none =>
   rintro e w9 ⟨hf9,rfl⟩
   have HF9:=hid (HF8.out.trans hf9)
   clear hf9
   go_wp2_with fail
   exact bodyPost_ret (v:=.tuple #[.slice none 0 0,.bool false]) (by simp [results,Try.results43,go_sem]) rfl ⟨HF9.out,rfl⟩
  | some s' =>
   rintro e w9 ⟨hf9,v',rfl,hv'⟩
   have HF9:=hid (HF8.out.trans hf9)
   have HV9:=hid hv'
   clear hf9 hv'
   go_wp2_with fail
   exact bodyPost_ret (v:=.tuple #[v',.bool true]) (by simp [results,Try.results43,go_sem]) rfl ⟨HF9.out,v',rfl,HV9.out⟩
 | clash1 h9 k9 h1 =>
  have e1 : (kd x == 9) = false:=by simp [h9]
  have e2 : (kd y == 9) = false:=by simp [k9]
  have e3 : (kd x != kd y) = true:=by simpa using h1
  clear h9 k9 h1
  refine (rvariable_any x _ w5 _ HTX5.out).mono ?_
  rw [e1]
  rintro e w6 ⟨rfl,hf6⟩
  have HF6:=hid (HF5.out.trans hf6)
  have HA6:=hid (HA5.out.keep hf6 (by simp))
  have HB6:=hid (HB5.out.keep hf6 (by simp))
  have HTX6:=hid (HTX5.out.keep0 hf6)
  have HTY6:=hid (HTY5.out.keep0 hf6)
  clear hf6 HF5 HA5 HB5 HTX5 HTY5
  try clear r0 r1 r2 rl s0 s1 s2 sl
  obtain ⟨r0,r1,r2,rl⟩:=cells3 HA6.out
  obtain ⟨s0,s1,s2,sl⟩:=cells3 HB6.out
  go_wp2_with fail
  refine (rvariable_any x _ w6 _ HTX6.out).mono ?_
  rw [e1]
  rintro e w7 ⟨rfl,hf7⟩
  have HF7:=hid (HF6.out.trans hf7)
  have HA7:=hid (HA6.out.keep hf7 (by simp))
  have HB7:=hid (HB6.out.keep hf7 (by simp))
  have HTX7:=hid (HTX6.out.keep0 hf7)
  have HTY7:=hid (HTY6.out.keep0 hf7)
  clear hf7 HF6 HA6 HB6 HTX6 HTY6
  try clear r0 r1 r2 rl s0 s1 s2 sl
  obtain ⟨r0,r1,r2,rl⟩:=cells3 HA7.out
  obtain ⟨s0,s1,s2,sl⟩:=cells3 HB7.out
  go_wp2_with fail
  refine (rvariable_any y _ w7 _ HTY7.out).mono ?_
  rw [e2]
  rintro e w8 ⟨rfl,hf8⟩
  have HF8:=hid (HF7.out.trans hf8)
  have HA8:=hid (HA7.out.keep hf8 (by simp))
  have HB8:=hid (HB7.out.keep hf8 (by simp))
  have HTX8:=hid (HTX7.out.keep0 hf8)
  have HTY8:=hid (HTY7.out.keep0 hf8)
  clear hf8 HF7 HA7 HB7 HTX7 HTY7
  try clear r0 r1 r2 rl s0 s1 s2 sl
  obtain ⟨r0,r1,r2,rl⟩:=cells3 HA8.out
  obtain ⟨s0,s1,s2,sl⟩:=cells3 HB8.out
  go_wp2_with fail
  exact bodyPost_ret (v:=.tuple #[.slice none 0 0,.bool false]) (by simp [results,Try.results43,go_sem]) rfl ⟨HF8.out,rfl⟩
 | clash2 h9 k9 h1 h2 =>
  have e1 : (kd x == 9) = false:=by simp [h9]
  have e2 : (kd y == 9) = false:=by simp [k9]
  have e3 : (kd x != kd y) = false:=by simp [h1]
  have e4 : (nm x != nm y) = true:=by simpa using h2
  clear h9 k9 h1 h2
  refine (rvariable_any x _ w5 _ HTX5.out).mono ?_
  rw [e1]
  rintro e w6 ⟨rfl,hf6⟩
  have HF6:=hid (HF5.out.trans hf6)
  have HA6:=hid (HA5.out.keep hf6 (by simp))
  have HB6:=hid (HB5.out.keep hf6 (by simp))
  have HTX6:=hid (HTX5.out.keep0 hf6)
  have HTY6:=hid (HTY5.out.keep0 hf6)
  clear hf6 HF5 HA5 HB5 HTX5 HTY5
  try clear r0 r1 r2 rl s0 s1 s2 sl
  obtain ⟨r0,r1,r2,rl⟩:=cells3 HA6.out
  obtain ⟨s0,s1,s2,sl⟩:=cells3 HB6.out
  go_wp2_with fail
  refine (rvariable_any x _ w6 _ HTX6.out).mono ?_
  rw [e1]
  rintro e w7 ⟨rfl,hf7⟩
  have HF7:=hid (HF6.out.trans hf7)
  have HA7:=hid (HA6.out.keep hf7 (by simp))
  have HB7:=hid (HB6.out.keep hf7 (by simp))
  have HTX7:=hid (HTX6.out.keep0 hf7)
  have HTY7:=hid (HTY6.out.keep0 hf7)
  clear hf7 HF6 HA6 HB6 HTX6 HTY6
  try clear r0 r1 r2 rl s0 s1 s2 sl
  obtain ⟨r0,r1,r2,rl⟩:=cells3 HA7.out
  obtain ⟨s0,s1,s2,sl⟩:=cells3 HB7.out
  go_wp2_with fail
  refine (rvariable_any y _ w7 _ HTY7.out).mono ?_
  rw [e2]
  rintro e w8 ⟨rfl,hf8⟩
  have HF8:=hid (HF7.out.trans hf8)
  have HA8:=hid (HA7.out.keep hf8 (by simp))
  have HB8:=hid (HB7.out.keep hf8 (by simp))
  have HTX8:=hid (HTX7.out.keep0 hf8)
  have HTY8:=hid (HTY7.out.keep0 hf8)
  clear hf8 HF7 HA7 HB7 HTX7 HTY7
  try clear r0 r1 r2 rl s0 s1 s2 sl
  obtain ⟨r0,r1,r2,rl⟩:=cells3 HA8.out
  obtain ⟨s0,s1,s2,sl⟩:=cells3 HB8.out
  go_wp2_with fail
  exact bodyPost_ret (v:=.tuple #[.slice none 0 0,.bool false]) (by simp [results,Try.results43,go_sem]) rfl ⟨HF8.out,rfl⟩
 | clash3 h9 k9 h1 h2 h3 =>
  have e1 : (kd x == 9) = false:=by simp [h9]
  have e2 : (kd y == 9) = false:=by simp [k9]
  have e3 : (kd x != kd y) = false:=by simp [h1]
  have e4 : (nm x != nm y) = false:=by simp [h2]
  have e5 : ((ar x).length != (ar y).length) = true:=by simpa using h3
  have e6 : (((ar x).length : Int) != ((ar y).length : Int)) = true:=by simp;omega
  clear h9 k9 h1 h2 h3
  refine (rvariable_any x _ w5 _ HTX5.out).mono ?_
  rw [e1]
  rintro e w6 ⟨rfl,hf6⟩
  have HF6:=hid (HF5.out.trans hf6)
  have HA6:=hid (HA5.out.keep hf6 (by simp))
  have HB6:=hid (HB5.out.keep hf6 (by simp))
  have HTX6:=hid (HTX5.out.keep0 hf6)
  have HTY6:=hid (HTY5.out.keep0 hf6)
  clear hf6 HF5 HA5 HB5 HTX5 HTY5
  try clear r0 r1 r2 rl s0 s1 s2 sl
  obtain ⟨r0,r1,r2,rl⟩:=cells3 HA6.out
  obtain ⟨s0,s1,s2,sl⟩:=cells3 HB6.out
  go_wp2_with fail
  refine (rvariable_any x _ w6 _ HTX6.out).mono ?_
  rw [e1]
  rintro e w7 ⟨rfl,hf7⟩
  have HF7:=hid (HF6.out.trans hf7)
  have HA7:=hid (HA6.out.keep hf7 (by simp))
  have HB7:=hid (HB6.out.keep hf7 (by simp))
  have HTX7:=hid (HTX6.out.keep0 hf7)
  have HTY7:=hid (HTY6.out.keep0 hf7)
  clear hf7 HF6 HA6 HB6 HTX6 HTY6
  try clear r0 r1 r2 rl s0 s1 s2 sl
  obtain ⟨r0,r1,r2,rl⟩:=cells3 HA7.out
  obtain ⟨s0,s1,s2,sl⟩:=cells3 HB7.out
  go_wp2_with fail
  refine (rvariable_any y _ w7 _ HTY7.out).mono ?_
  rw [e2]
  rintro e w8 ⟨rfl,hf8⟩
  have HF8:=hid (HF7.out.trans hf8)
  have HA8:=hid (HA7.out.keep hf8 (by simp))
  have HB8:=hid (HB7.out.keep hf8 (by simp))
  have HTX8:=hid (HTX7.out.keep0 hf8)
  have HTY8:=hid (HTY7.out.keep0 hf8)
  clear hf8 HF7 HA7 HB7 HTX7 HTY7
  try clear r0 r1 r2 rl s0 s1 s2 sl
  obtain ⟨r0,r1,r2,rl⟩:=cells3 HA8.out
  obtain ⟨s0,s1,s2,sl⟩:=cells3 HB8.out
  go_wp2_with fail
  exact bodyPost_ret (v:=.tuple #[.slice none 0 0,.bool false]) (by simp [results,Try.results43,go_sem]) rfl ⟨HF8.out,rfl⟩
 | args h9 k9 h1 h2 n h3 h4 r hseq =>
  have e1 : (kd x == 9) = false:=by simp [h9]
  have e2 : (kd y == 9) = false:=by simp [k9]
  have e3 : (kd x != kd y) = false:=by simp [h1]
  have e4 : (nm x != nm y) = false:=by simp [h2]
  have e5 : ((n : Int) != (n : Int)) = false:=by simp
  have H3:=hid h3
  have H4:=hid h4
  have HSEQ:=hid hseq
  clear h9 k9 h1 h2 h3 h4 hseq
  refine (rvariable_any x _ w5 _ HTX5.out).mono ?_
  rw [e1]
  rintro e w6 ⟨rfl,hf6⟩
  have HF6:=hid (HF5.out.trans hf6)
  have HA6:=hid (HA5.out.keep hf6 (by simp))
  have HB6:=hid (HB5.out.keep hf6 (by simp))
  have HTX6:=hid (HTX5.out.keep0 hf6)
  have HTY6:=hid (HTY5.out.keep0 hf6)
  clear hf6 HF5 HA5 HB5 HTX5 HTY5
  try clear r0 r1 r2 rl s0 s1 s2 sl
  obtain ⟨r0,r1,r2,rl⟩:=cells3 HA6.out
  obtain ⟨s0,s1,s2,sl⟩:=cells3 HB6.out
  go_wp2_with fail
  refine (rvariable_any x _ w6 _ HTX6.out).mono ?_
  rw [e1]
  rintro e w7 ⟨rfl,hf7⟩
  have HF7:=hid (HF6.out.trans hf7)
  have HA7:=hid (HA6.out.keep hf7 (by simp))
  have HB7:=hid (HB6.out.keep hf7 (by simp))
  have HTX7:=hid (HTX6.out.keep0 hf7)
  have HTY7:=hid (HTY6.out.keep0 hf7)
  clear hf7 HF6 HA6 HB6 HTX6 HTY6
  try clear r0 r1 r2 rl s0 s1 s2 sl
  obtain ⟨r0,r1,r2,rl⟩:=cells3 HA7.out
  obtain ⟨s0,s1,s2,sl⟩:=cells3 HB7.out
  go_wp2_with fail
  refine (rvariable_any y _ w7 _ HTY7.out).mono ?_
  rw [e2]
  rintro e w8 ⟨rfl,hf8⟩
  have HF8:=hid (HF7.out.trans hf8)
  have HA8:=hid (HA7.out.keep hf8 (by simp))
  have HB8:=hid (HB7.out.keep hf8 (by simp))
  have HTX8:=hid (HTX7.out.keep0 hf8)
  have HTY8:=hid (HTY7.out.keep0 hf8)
  clear hf8 HF7 HA7 HB7 HTX7 HTY7
  try clear r0 r1 r2 rl s0 s1 s2 sl
  rw [H3.out] at HA8
  rw [H4.out] at HB8
  obtain ⟨r0,r1,r2,rl⟩:=cells3 HA8.out
  obtain ⟨s0,s1,s2,sl⟩:=cells3 HB8.out
  go_wp2_with fail
  obtain ⟨_,_,hsx,hax⟩:=HTX8.out.shape
  obtain ⟨_,_,hsy,hay⟩:=HTY8.out.shape
  simp only [List.cons.injEq,Value.slice.injEq,true_and,and_true] at hsx hsy
  obtain ⟨rfl,rfl⟩:=hsx
  obtain ⟨rfl,rfl⟩:=hsy
  rw [H3.out] at hax
  rw [H4.out] at hay
  have HAX:=hid hax
  have HAY:=hid hay
  obtain ⟨l,hl⟩ : ∃ l,l = ar x:=⟨_,rfl⟩
  obtain ⟨m,hm⟩ : ∃ m,m = ar y:=⟨_,rfl⟩
  rw [← hl] at HAX H3 HSEQ
  rw [← hm] at HAY H4 HSEQ
  have hn6 : n ≤ 2 ^ 63 - 1:=by have:=HAX.out.len;unfold maxLen at this;rw [H3.out] at this;exact this
  clear hax hay hl hm r0 r1 r2 rl s0 s1 s2 sl HTX8 HTY8
  have HV8 : Hid (TysV w8 (fun _ => True) s v):=hid (TysV.weak (HV.out.keep0 HF8.out) (fun _ _ _ => trivial))
  go_loopw [0,8] (fun u z wr => ∃ (j : Nat) (sj : List Ty),z = .int .i64 j ∧ j ≤ n ∧ Hid (Fr [] w8 wr) ∧ Hid (TysV wr (fun _ => True) sj u) ∧ Hid (SolveSeq sj ((l.zip m).drop j) r) ∧ Hid (Blk wr w.heap.size 24 #[.int .i64 (kd x),.int .i64 (nm x),.slice p2 n c2]) ∧ Hid (Blk wr (w.heap.size + 1) 24 #[.int .i64 (kd y),.int .i64 (nm y),.slice p3 n c3])) (fun _ z _ => n - (RowKit.intOf z).toNat)
  case atStart => exact ⟨0,s,rfl,Nat.zero_le _,hid (Fr.refl _ _),HV8,by rw [List.drop_zero];exact HSEQ,HA8,HB8⟩
  case round =>
   obtain ⟨j,sj,rfl,hj,HFR,HVJ,HQ,HAR,HBR⟩:=hrel
   have r2 : wr.cell? ⟨w.heap.size,2,none⟩ = some (.slice p2 n c2):=HAR.out.cell 2
   have rl : w.heap.size < wr.heap.size:=HAR.out.lt
   have s2 : wr.cell? ⟨w.heap.size + 1,2,none⟩ = some (.slice p3 n c3):=HBR.out.cell 2
   have sl : w.heap.size + 1 < wr.heap.size:=HBR.out.lt
   by_cases hlt : j < n
   ·have hd2 : decide ((j : Int) < (n : Int)) = true:=by simp;omega
    have hd3 : decide (j < n) = true:=by simpa using hlt
    have hd4 : (j : Int) < (n : Int):=by omega
    obtain ⟨xa,hxa⟩ : ∃ xa,l[j]? = some xa:=⟨_,List.getElem?_eq_getElem (by rw [H3.out];exact hlt)⟩
    obtain ⟨ya,hya⟩ : ∃ ya,m[j]? = some ya:=⟨_,List.getElem?_eq_getElem (by rw [H4.out];exact hlt)⟩
    obtain ⟨b1,o1,rfl,hat1⟩:=TysV.elem HAX.out hxa
    obtain ⟨b2,o2,rfl,hat2⟩:=TysV.elem HAY.out hya
    obtain ⟨wd,hwd⟩ : ∃ wd,wd = wr.drew:=⟨_,rfl⟩
    have HFD : Hid (Fr [] wr wd):=hid (by rw [hwd];exact (Fr.refl _ _).drew)
    obtain ⟨q1,d1,k1,hb1,g0,g1,g2⟩:=hat1.el HFR.out (by simp) hxa
    obtain ⟨q2,d2,k2,hb2,i0,i1,i2⟩:=hat2.el HFR.out (by simp) hya
    have hdrop : (l.zip m).drop j = (xa,ya) :: (l.zip m).drop (j + 1):=by
     have hz : (l.zip m)[j]? = some (xa,ya):=by rw [List.getElem?_zip_eq_some];exact ⟨hxa,hya⟩
     have hzl:=(List.getElem?_eq_some_iff.1 hz).1
     rw [List.drop_eq_getElem_cons hzl]
     congr 1
     exact (List.getElem?_eq_some_iff.1 hz).2
    have hq:=HQ.out
    rw [hdrop] at hq
    have K1:=hid (TyV.weak (N':=fun _ => True) (k1.keep0 HFD.out) (fun _ _ _ => trivial))
    have K2:=hid (TyV.weak (N':=fun _ => True) (k2.keep0 HFD.out) (fun _ _ _ => trivial))
    have HVD:=hid (HVJ.out.keep0 HFD.out)
    have HFW : Hid (Fr [] w wd):=hid ((HF8.out.trans HFR.out).trans HFD.out)
    have HFW8 : Hid (Fr [] w8 wd):=hid (HFR.out.trans HFD.out)
    have HAD:=hid (HAR.out.keep HFD.out (by simp))
    have HBD:=hid (HBR.out.keep HFD.out (by simp))
    obtain ⟨ps,kp,rfl⟩:=HVJ.out.shape
    clear k1 k2 hat1 hat2 hdrop hxa hya HQ
    cases hq with
    | fail _ _ _ _ hs =>
     have HCL:=hid (hs _ _ _ wd HVD.out K1.out K2.out)
     clear hs
     go_wp2_with fail
     go_region_law (go_simp;go_at_call 43;(try rw [← hwd]);(with_reducible refine HCL.out.mono ?_);rintro e w9 ⟨hf9,rfl⟩;have HF9:=hid (HFW.out.trans hf9);clear hf9)
     all_goals
      clear g0 g1 g2 i0 i1 i2 r2 s2 rl sl hb1 hb2
      go_wp2_with fail
      exact bodyPost_ret (v:=.tuple #[.slice none 0 0,.bool false]) (by simp [results,Try.results43,go_sem]) rfl ⟨HF9.out,rfl⟩
    | step _ _ _ _ s1 _ hs hk =>
     have HCL:=hid (hs _ _ _ wd HVD.out K1.out K2.out)
     have HK:=hid hk
     clear hs hk
     go_wp2_with fail
     go_region_law (go_simp;go_at_call 43;(try rw [← hwd]);(with_reducible refine HCL.out.mono ?_);rintro e w9 ⟨hf9,v9,rfl,hv9⟩;have HF9:=hid (HFW8.out.trans hf9);have HV9:=hid hv9;have HA9:=hid (HAD.out.keep hf9 (by simp));have HB9:=hid (HBD.out.keep hf9 (by simp));clear hf9 hv9)
     all_goals
      clear g0 g1 g2 i0 i1 i2 r2 s2 rl sl hb1 hb2
      go_wp2_with fail
      go_roundw
      case rel => exact ⟨j + 1,s1,by go_num,by omega,HF9,HV9,HK,HA9,HB9⟩
      case measure => simp [RowKit.intOf];omega
   ·have hd2 : decide ((j : Int) < (n : Int)) = false:=by simp;omega
    have hd3 : decide (j < n) = false:=by simpa using hlt
    obtain rfl : j = n:=by omega
    have hq:=HQ.out
    rw [List.drop_eq_nil_of_le (by rw [List.length_zip,H3.out,H4.out];omega)] at hq
    cases hq
    obtain ⟨ps,kp,rfl⟩:=HVJ.out.shape
    go_wp2_with fail
    exact bodyPost_ret (v:=.tuple #[.slice ps sj.length kp,.bool true]) (by simp [results,Try.results43,go_sem]) rfl ⟨HF8.out.trans HFR.out,_,rfl,HVJ.out⟩
theorem solve_same (s : List Ty) (a b x y : Ty) (f : Nat) (hx : rfind s f a = some x) (hy : rfind s f b = some y) (h9 : kd x = 9) (k9 : kd y = 9) (he : nm x = nm y) : Solves s a b (some s):=solve_how s a b x y f hx hy _ (.same h9 k9 he)
theorem solve_lt (s : List Ty) (a b x y : Ty) (f : Nat) (hx : rfind s f a = some x) (hy : rfind s f b = some y) (h9 : kd x = 9) (k9 : kd y = 9) (m : Nat) (hm : nm y = m) (he : nm x < m) (hms : m < s.length) (hl : s.length ≤ 100000) : Solves s a b (some (s.set m x)):=solve_how s a b x y f hx hy _ (.lt h9 k9 m hm he hms hl)
theorem solve_gt (s : List Ty) (a b x y : Ty) (f : Nat) (hx : rfind s f a = some x) (hy : rfind s f b = some y) (h9 : kd x = 9) (k9 : kd y = 9) (m : Nat) (hm : nm x = m) (he : nm y < m) (hms : m < s.length) (hl : s.length ≤ 100000) : Solves s a b (some (s.set m y)):=solve_how s a b x y f hx hy _ (.gt h9 k9 m hm he hms hl)
theorem solve_occL (s : List Ty) (a b x y : Ty) (f : Nat) (hx : rfind s f a = some x) (hy : rfind s f b = some y) (h9 : kd x = 9) (k9 : kd y ≠ 9) (m : Nat) (hm : nm x = m) (hs : Un.Okl s) (ho1 : over s.length y = true) (z : Ty) (hz : Res s y z) (eo : occ m z = true) : Solves s a b none:=solve_how s a b x y f hx hy _ (.occL h9 k9 m hm hs ho1 z hz eo)
theorem solve_bindL (s : List Ty) (a b x y : Ty) (f : Nat) (hx : rfind s f a = some x) (hy : rfind s f b = some y) (h9 : kd x = 9) (k9 : kd y ≠ 9) (m : Nat) (hm : nm x = m) (hs : Un.Okl s) (ho1 : over s.length y = true) (z : Ty) (hz : Res s y z) (eo : occ m z = false) (hms : m < s.length) (hl : s.length ≤ 100000) : Solves s a b (some (s.set m y)):=solve_how s a b x y f hx hy _ (.bindL h9 k9 m hm hs ho1 z hz eo hms hl)
theorem solve_right (s : List Ty) (a b x y : Ty) (f : Nat) (hx : rfind s f a = some x) (hy : rfind s f b = some y) (h9 : kd x ≠ 9) (k9 : kd y = 9) (r : Option (List Ty)) (hr : Solves s y x r) : Solves s a b r:=solve_how s a b x y f hx hy _ (.right h9 k9 r hr)
theorem solve_clash1 (s : List Ty) (a b x y : Ty) (f : Nat) (hx : rfind s f a = some x) (hy : rfind s f b = some y) (h9 : kd x ≠ 9) (k9 : kd y ≠ 9) (h1 : kd x ≠ kd y) : Solves s a b none:=solve_how s a b x y f hx hy _ (.clash1 h9 k9 h1)
theorem solve_clash2 (s : List Ty) (a b x y : Ty) (f : Nat) (hx : rfind s f a = some x) (hy : rfind s f b = some y) (h9 : kd x ≠ 9) (k9 : kd y ≠ 9) (h1 : kd x = kd y) (h2 : nm x ≠ nm y) : Solves s a b none:=solve_how s a b x y f hx hy _ (.clash2 h9 k9 h1 h2)
theorem solve_clash3 (s : List Ty) (a b x y : Ty) (f : Nat) (hx : rfind s f a = some x) (hy : rfind s f b = some y) (h9 : kd x ≠ 9) (k9 : kd y ≠ 9) (h1 : kd x = kd y) (h2 : nm x = nm y) (h3 : (ar x).length ≠ (ar y).length) : Solves s a b none:=solve_how s a b x y f hx hy _ (.clash3 h9 k9 h1 h2 h3)
theorem solve_args (s : List Ty) (a b x y : Ty) (f : Nat) (hx : rfind s f a = some x) (hy : rfind s f b = some y) (h9 : kd x ≠ 9) (k9 : kd y ≠ 9) (h1 : kd x = kd y) (h2 : nm x = nm y) (n : Nat) (h3 : (ar x).length = n) (h4 : (ar y).length = n) (r : Option (List Ty)) (hseq : SolveSeq s ((ar x).zip (ar y)) r) : Solves s a b r:=solve_how s a b x y f hx hy _ (.args h9 k9 h1 h2 n h3 h4 r hseq)
end Go.Proofs.Ytcdlnhfgehhkcaa
