/- part of the proof -/
import Derived.Test.YtcdlnhfgehhkcaaQ35
import Derived.Test.YtcdlnhfgehhkcaaQ37
set_option linter.unusedVariables false
set_option linter.unusedSimpArgs false
set_option linter.unusedSectionVars false
namespace Go.Proofs.Ytcdlnhfgehhkcaa
open Go.RowKit Go.Lib
open Un (kd nm ar size sizes over occ Res depth Okl Ranked Rk rfind)
namespace Un
def FI (s : List Ty) (j : Nat) (fl : List Int) : Prop:=fl.length = s.length ∧ (∀ x ∈ fl,0 ≤ x ∧ x < 1000000) ∧ ∀ v : Nat,s[v]? = some zero → (∀ i,j ≤ i → i < s.length → ¬ Res s (var i) (var v)) ∨ ∃ f : Nat,fl[v]? = some (f : Int) ∧ j ≤ f ∧ f < s.length ∧ Res s (var f) (var v) ∧ ∀ i,j ≤ i → i < s.length → Res s (var i) (var v) → f ≤ i
theorem FI.start (s : List Ty) : FI s s.length (List.replicate s.length 0):=⟨by simp,fun x hx => by rw [List.mem_replicate] at hx;omega,fun v _ => .inl fun i h1 h2 => by omega⟩
theorem FI.bound {s : List Ty} {i : Nat} {fl : List Int} (h : FI s (i + 1) fl) (hi : i < s.length) (hn : s.length ≤ 1000) {m : Nat} (hm : s[m]? = some zero) (hr : Res s (var i) (var m)) : FI s i (fl.set m i):=by
 obtain ⟨h1,h2,h3⟩:=h
 have hml:=(List.getElem?_eq_some_iff.1 hm).1
 refine ⟨by simp [h1],fun x hx => ?_,fun v hv => ?_⟩
 ·rcases List.mem_or_eq_of_mem_set hx with h4 | rfl
  ·exact h2 x h4
  ·omega
 ·by_cases e : v = m
  ·subst e
   right
   refine ⟨i,List.getElem?_set_self (by omega),Nat.le_refl _,hi,hr,fun i' h4 _ _ => h4⟩
  ·rw [List.getElem?_set_ne (by omega)]
   have hno : ¬ Res s (var i) (var v):=fun h4 => by
    have:=Res.det hr h4
    have h5 : (m : Int) = v:=by injection this
    omega
   rcases h3 v hv with h4 | ⟨f,h4,h5,h6,h7,h8⟩
   ·left
    intro i' h9 h10
    by_cases e2 : i' = i
    ·rw [e2];exact hno
    ·exact h4 i' (by omega) h10
   ·right
    refine ⟨f,h4,by omega,h6,h7,fun i' h9 h10 h11 => ?_⟩
    by_cases e2 : i' = i
    ·rw [e2] at h11;exact absurd h11 hno
    ·exact h8 i' (by omega) h10 h11
theorem FI.other {s : List Ty} {i : Nat} {fl : List Int} (h : FI s (i + 1) fl) {z : Ty} (hz : Res s (var i) z) (hk : kd z ≠ 9) : FI s i fl:=by
 obtain ⟨h1,h2,h3⟩:=h
 refine ⟨h1,h2,fun v hv => ?_⟩
 have hno : ¬ Res s (var i) (var v):=fun h4 => by
  have:=Res.det hz h4
  rw [this] at hk
  exact hk rfl
 rcases h3 v hv with h4 | ⟨f,h4,h5,h6,h7,h8⟩
 ·left
  intro i' h9 h10
  by_cases e2 : i' = i
  ·rw [e2];exact hno
  ·exact h4 i' (by omega) h10
 ·right
  refine ⟨f,h4,by omega,h6,h7,fun i' h9 h10 h11 => ?_⟩
  by_cases e2 : i' = i
  ·rw [e2] at h11;exact absurd h11 hno
  ·exact h8 i' (by omega) h10 h11
def frOf (fl : List Int) (v : Nat) : Nat:=((fl[v]?).getD 0).toNat
def lel (y : Ty) (i : Nat) : Ty:=if kd y = 9 ∧ nm y = i then zero else y
theorem least_of {s : List Ty} {fl : List Int} {zs L : List Ty} (hs : Okl s) (h : FI s 0 fl) (hzl : zs.length = s.length) (hz : ∀ (i : Nat) (z : Ty),zs[i]? = some z → Res s (var i) z) (hL : L = (List.range s.length).map fun i => lel (ap (ren (frOf fl)) ((zs[i]?).getD zero)) i) : Least s (frOf fl) L:=by
 obtain ⟨h1,h2,h3⟩:=h
 have low : ∀ v : Nat,s[v]? = some zero → frOf fl v < s.length ∧ Res s (var (frOf fl v)) (var v) ∧ ∀ i : Nat,i < s.length → Res s (var i) (var v) → frOf fl v ≤ i:=fun v hv => by
  have hvl:=(List.getElem?_eq_some_iff.1 hv).1
  rcases h3 v hv with h4 | ⟨f,h4,h5,h6,h7,h8⟩
  ·exact absurd (res_var hv) (h4 v (Nat.zero_le _) hvl)
  ·have e : frOf fl v = f:=by unfold frOf;rw [h4];simp
   rw [e]
   exact ⟨h6,h7,fun i hi hr => h8 i (Nat.zero_le _) hi hr⟩
 refine ⟨by rw [hL];simp,low,fun i hi => ?_⟩
 have hzi:=List.getElem?_eq_getElem (l:=zs) (i:=i) (by omega)
 refine ⟨_,hz i _ hzi,?_⟩
 have hLi : L[i]? = some (lel (ap (ren (frOf fl)) zs[i]) i):=by
  rw [hL,List.getElem?_map,List.getElem?_range hi,Option.map_some,hzi];rfl
 have hzo:=Res.over (hz i _ hzi) hs.hel (over_nat hi)
 have hro:=ren_over (zs[i]) hzo (fr:=frOf fl) (fun v hv => by
  obtain ⟨m,rfl,hm⟩:=(hz i _ hzi).left0 hs hv
  exact (low m hm).1)
 rw [hLi]
 unfold lel
 by_cases hc : kd (ap (ren (frOf fl)) zs[i]) = 9 ∧ nm (ap (ren (frOf fl)) zs[i]) = i
 ·left
  rw [if_pos hc]
  exact ⟨by rw [(over_var hro hc.1).2.2,hc.2],rfl⟩
 ·right
  rw [if_neg hc]
  exact ⟨fun e => hc (by rw [e];exact ⟨rfl,rfl⟩),rfl⟩
theorem zs_ex {s : List Ty} (hs : Okl s) (hr : Ranked s) : ∃ zs : List Ty,zs.length = s.length ∧ ∀ (i : Nat) (z : Ty),zs[i]? = some z → Res s (var i) z:=by
 have key : ∀ n,n ≤ s.length → ∃ zs : List Ty,zs.length = n ∧ ∀ (i : Nat) (z : Ty),zs[i]? = some z → Res s (var i) z:=by
  intro n
  induction n with
  | zero => exact fun _ => ⟨[],rfl,fun i z h => by simp at h⟩
  | succ n ih =>
   intro hn
   obtain ⟨zs,h1,h2⟩:=ih (by omega)
   obtain ⟨z,hz⟩:=Res.ex hs.vin hr (t:=var n) (vin_of_over _ _ (over_nat (by omega)))
   refine ⟨zs ++ [z],by simp [h1],fun i y hy => ?_⟩
   by_cases hi : i < n
   ·rw [List.getElem?_append_left (by omega)] at hy
    exact h2 i y hy
   ·have hil:=(List.getElem?_eq_some_iff.1 hy).1
    rw [List.length_append,List.length_singleton,h1] at hil
    rw [List.getElem?_append_right (by omega),h1,show i - n = 0 by omega] at hy
    simp only [List.getElem?_cons_zero,Option.some.injEq] at hy
    rw [← hy,show i = n by omega]
    exact hz
 exact key s.length (Nat.le_refl _)
end Un
theorem var_tyv (w : World) (N : Nat → Prop) (i : Int) : TyV w N (Un.var i) [.int .i64 9,.int .i64 i,.slice none 0 0]:=TyV.mk (TysV.nil none 0)
theorem zero_tyv (w : World) (N : Nat → Prop) : TyV w N Un.zero [.int .i64 0,.int .i64 0,.slice none 0 0]:=TyV.mk (TysV.nil none 0)
def LeastP (s : List Ty) (w : World) (e : Ending) (w' : World) : Prop:=∃ (fr : Nat → Nat) (L : List Ty),Un.Least s fr L ∧ ListP L w e w'
set_option maxRecDepth 100000 in
set_option maxHeartbeats 6400000 in
theorem least_any (s : List Ty) (v : Value) (w : World) (hv : TysV w (fun _ => True) s v) (hok : Okl s) (hR : Ranked s) (hl : s.length ≤ 900) (hsz : ∀ x ∈ s,size x ≤ 100000) :
  Calls Try.prog 45 #[v] w (LeastP s w):=by
 obtain ⟨ps,kp,rfl⟩:=hv.shape
 obtain ⟨zs,hzl,hz⟩:=Un.zs_ex hok hR
 obtain ⟨n,hn⟩ : ∃ n,n = s.length:=⟨_,rfl⟩
 have HN:=hid hn
 have HV:=hid hv
 have HOK:=hid hok
 have HZL:=hid hzl
 have HZ:=hid hz
 have HWD : Hid (∀ (i : Nat) (z : Ty),zs[i]? = some z → Wd z):=hid (fun i z h => Wd.res (fun x hx => wd_size x (hsz x hx)) (hz i z h) (wd_size _ (by simp [Un.var,size,sizes])))
 have HSZ:=hid hsz
 obtain ⟨k0,hk0,kz0,kz1,kz2⟩:=info_parts info_int
 have hms : ∀ w1 : World,(Instr.makeSlice 28 (.int .i64 (n : Int)) (.int .i64 (n : Int))).run Try.prog w1 = .ok (.slice (some ⟨w1.heap.size,0,none⟩) n n) (w1.alloc (.cells (madeCells #[.int .i64 0] n) 3)):=fun w1 => by
  have:=run_makeSlice w1 28 3 k0 _ Try.underlying28 hk0 kz0 .i64 .i64 n n (by omega) (Int.le_refl _) (by rw [kz1];simp;omega) (by rw [kz2];omega) (by omega)
  rw [kz1] at this
  simpa [Value.cells] using this
 have HFI : Hid (∀ (i : Nat) (y : Ty) (f : Nat),i < n → rfind s f (Un.var i) = some y → ∀ wx,Fr [] w wx → Calls Try.prog 60 #[.slice ps n kp,.agg #[.int .i64 9,.int .i64 i,.slice none 0 0]] wx (TypP (fun _ => True) y wx)):=hid (fun i y f hi hf wx hfr => by
  have h1:=findG_any (fun _ => True) s (.slice ps s.length kp) (Un.var i) y f [.int .i64 9,.int .i64 i,.slice none 0 0] wx (hv.keep0 hfr) (var_tyv _ _ _) hf
  rw [← hn] at h1
  exact h1)
 have hln : n ≤ 900:=by omega
 rw [← hn]
 clear hv hok hR hl hsz hz hzl hk0 kz0 kz1 kz2 hn
 obtain ⟨fb,hfb⟩ : ∃ fb,fb = w.heap.size:=⟨_,rfl⟩
 obtain ⟨wk,hwk⟩ : ∃ wk,wk = w.alloc (.cells (madeCells #[.int .i64 0] n) 3):=⟨_,rfl⟩
 have HFK : Hid (Fr [] w wk):=hid (by rw [hwk];exact (Fr.refl _ _).alloc _)
 have HBK : Hid (IntsB wk fb (List.replicate n 0)):=hid (by rw [hwk,hfb];exact IntsB.made (Blk.new _ _ _))
 have HFB : Hid (w.heap.size ≤ fb):=hid (by omega)
 go_enter Try.func45,Try.ntmps45
 go_wp2_with fail
 rw [← hwk,← hfb]
 clear hwk hfb hms
 go_loopw [4] (fun x wr => ∃ (j : Nat) (fl : List Int),x = .int .i64 ((j : Int) - 1) ∧ j ≤ n ∧ Hid (Un.FI s j fl) ∧ Hid (Fr [] w wr) ∧ Hid (IntsB wr fb fl)) (fun x _ => (RowKit.intOf x + 1).toNat)
 case atStart => exact ⟨n,List.replicate n 0,by first | rfl | go_num,Nat.le_refl _,hid (by rw [HN.out];exact Un.FI.start s),HFK,HBK⟩
 case round =>
  obtain ⟨j,fl,rfl,hj,HI,HFR,HBR⟩:=hrel
  cases j with
  | succ i =>
   have ei : (((i + 1 : Nat) : Int) - 1) = (i : Int):=by omega
   rw [ei]
   have e0 : decide ((0 : Int) ≤ (i : Int)) = true:=by simp
   have hil : i < n:=by omega
   obtain ⟨z,hz⟩ : ∃ z,zs[i]? = some z:=⟨_,List.getElem?_eq_getElem (by rw [HZL.out,← HN.out];exact hil)⟩
   obtain ⟨f,y,hfy,hyz⟩:=Un.rfind_res HOK.out (HZ.out i z hz)
   have HCL:=hid (HFI.out i y f hil hfy wr HFR.out)
   have hsp:=Un.rfind_spec HOK.out hfy (Un.over_nat (by rw [← HN.out];exact hil))
   have HSP:=hid hsp
   have HYZ:=hid hyz
   have HZI:=hid (HZ.out i z hz)
   clear hz hfy hsp hyz ei
   go_wp2_with fail
   refine HCL.out.mono ?_
   rintro e w2 ⟨hf2,ds,rfl,hty⟩
   obtain ⟨p2,c2,rfl,_⟩:=hty.shape
   have HF2:=hid (HFR.out.trans hf2)
   have HB2:=hid (HBR.out.keep hf2 (by simp))
   have HTY:=hid hty
   clear hf2 hty
   go_wp2_with fail
   obtain ⟨w3,hw3⟩ : ∃ w3,w3 = w2.alloc (.cells #[.int .i64 (kd y),.int .i64 (nm y),.slice p2 (ar y).length c2] 24):=⟨_,rfl⟩
   obtain ⟨O,hO⟩ : ∃ O,O = w2.heap.size:=⟨_,rfl⟩
   have HF3 : Hid (Fr [] w w3):=hid (by rw [hw3];exact HF2.out.alloc _)
   have HB3 : Hid (IntsB w3 fb fl):=hid (by rw [hw3];exact HB2.out.keep ((Fr.refl [] w2).alloc _) (by simp))
   have HO3 : Hid (Blk w3 O 24 #[.int .i64 (kd y),.int .i64 (nm y),.slice p2 (ar y).length c2]):=hid (by rw [hw3,hO];exact Blk.new _ _ _)
   have HTY3 : Hid (TyV w3 (fun _ => True) y [.int .i64 (kd y),.int .i64 (nm y),.slice p2 (ar y).length c2]):=hid (by rw [hw3];exact HTY.out.keep0 ((Fr.refl _ _).alloc _))
   rw [← hw3,← hO]
   clear hw3 hO HF2 HB2 HTY
   refine (rvariable_any y _ w3 _ HTY3.out).mono ?_
   by_cases h9 : kd y = 9
   ·have e1 : (kd y == 9) = true:=by simp [h9]
    obtain ⟨m,hym,hmz⟩:=HSP.out.2.1 h9
    have hnm : nm y = m:=by rw [hym];rfl
    have hml : m < n:=by rw [HN.out];exact (List.getElem?_eq_some_iff.1 hmz).1
    have hzv : z = Un.var m:=by
     have h1:=HYZ.out
     rw [hym] at h1
     exact Un.Res.det h1 (Un.res_var hmz)
    have HNX : Hid (Un.FI s i (fl.set m i)):=hid (HI.out.bound (by rw [← HN.out];exact hil) (by rw [← HN.out];omega) hmz (by rw [← hzv];exact HZI.out))
    have hfl : fl.length = n:=by rw [HN.out];exact HI.out.1
    rw [e1]
    rintro e w4 ⟨rfl,hf4⟩
    have HF4:=hid (HF3.out.trans hf4)
    have HB4:=hid (HB3.out.keep hf4 (by simp))
    have HO4:=hid (HO3.out.keep hf4 (by simp))
    have x1 : w4.cell? ⟨O,1,none⟩ = some (.int .i64 m):=by rw [← hnm];exact HO4.out.cell 1
    have xl : O < w4.heap.size:=HO4.out.lt
    obtain ⟨u,hu⟩ : ∃ u,fl[m]? = some u:=⟨_,List.getElem?_eq_getElem (by omega)⟩
    have q0 : w4.cell? ⟨fb,m,none⟩ = some (.int .i64 u):=HB4.out.el hu
    have qf:=HB4.out.frozen m
    have ql : fb < w4.heap.size:=HB4.out.lt
    have hd3 : decide (m < n) = true:=by simpa using hml
    have hd4 : decide ((m : Int) < (n : Int)) = true:=by simp;omega
    have hd5 : (m : Int) < (n : Int):=by omega
    clear hf4 e1 hym hmz hzv hnm hu h9 hfl
    go_wp2_with fail
    go_roundw
    case rel => exact ⟨i,fl.set m i,rfl,by omega,HNX,hid (HF4.out.setCell (.inr HFB.out) _),hid (HB4.out.set m i)⟩
    case measure => simp [RowKit.intOf]
   ·have e1 : (kd y == 9) = false:=by simp [h9]
    have hk9 : kd z ≠ 9:=by rw [Un.res_kd HYZ.out h9];exact h9
    have HNX : Hid (Un.FI s i fl):=hid (HI.out.other HZI.out hk9)
    rw [e1]
    rintro e w4 ⟨rfl,hf4⟩
    have HF4:=hid (HF3.out.trans hf4)
    have HB4:=hid (HB3.out.keep hf4 (by simp))
    clear hf4 e1 h9 hk9
    go_wp2_with fail
    go_roundw
    case rel => exact ⟨i,fl,rfl,by omega,HNX,HF4,HB4⟩
    case measure => simp [RowKit.intOf]
  | zero =>
   rw [show (((0 : Nat) : Int) - 1) = -1 by omega]
   have HFL : Hid (fl.length = n):=hid (by rw [HN.out];exact HI.out.1)
   have HFR2 : Hid (∀ x ∈ fl,0 ≤ x ∧ x < 1000000):=hid HI.out.2.1
   go_wp2_with fail
   obtain ⟨Rl,hRl⟩ : ∃ Rl,Rl = fl.map Un.var:=⟨_,rfl⟩
   have HRL : Hid (Rl.length = n):=hid (by rw [hRl,List.length_map,HFL.out])
   have HRV : Hid (∀ (i : Nat) (x : Int),fl[i]? = some x → Rl[i]? = some (Un.var x)):=hid (fun i x hx => by rw [hRl,List.getElem?_map,hx];rfl)
   have HRM:=hid hRl
   obtain ⟨i0,hi0,iz0,iz1,iz2⟩:=info_parts info_ty
   have HI0:=hid hi0
   have HIZ0:=hid iz0
   have HIZ1:=hid iz1
   have HIZ2:=hid iz2
   obtain ⟨B2,hB2⟩ : ∃ B2,B2 = wr.heap.size:=⟨_,rfl⟩
   have HB2 : Hid (w.heap.size ≤ B2 ∧ fb < B2):=hid (by rw [hB2];exact ⟨HFR.out.size,HBR.out.lt⟩)
   have HW2 : Hid (B2 ≤ wr.heap.size):=hid (by rw [hB2];exact Nat.le_refl _)
   clear hRl hi0 iz0 iz1 iz2 hB2 hj
   go_loopw [6,7] (fun u x wr => ∃ j : Nat,x = .int .i64 j ∧ j ≤ n ∧ Hid (OwnL wr (fun _ => False) B2 24 3 j (rowsQ qTy (Rl.take j)) u) ∧ Hid (Fr [] w wr) ∧ Hid (IntsB wr fb fl) ∧ Hid (B2 ≤ wr.heap.size)) (fun _ x _ => n - (RowKit.intOf x).toNat)
   case atStart => exact ⟨0,rfl,Nat.zero_le _,hid (by rw [List.take_zero,rowsQ];exact OwnL.nil _ _ _ _ _),HFR,HBR,HW2⟩
   case round =>
    obtain ⟨j,rfl,hj,HO,HFR,HBR,HW⟩:=hrel
    obtain ⟨pv,cv,rfl⟩:=HO.out.shape
    by_cases hlt : j < n
    ·have hd2 : decide ((j : Int) < (n : Int)) = true:=by simp;omega
     have hd3 : decide (j < n) = true:=by simpa using hlt
     have hd4 : (j : Int) < (n : Int):=by omega
     obtain ⟨x,hx⟩ : ∃ x,fl[j]? = some x:=⟨_,List.getElem?_eq_getElem (by rw [HFL.out];exact hlt)⟩
     have q0 : wr.cell? ⟨fb,j,none⟩ = some (.int .i64 x):=HBR.out.el hx
     have ql : fb < wr.heap.size:=HBR.out.lt
     have HTK : Hid (Rl.take (j + 1) = Rl.take j ++ [Un.var x]):=hid (by rw [List.take_add_one,HRV.out j x hx];rfl)
     obtain ⟨r1,r2,r3,r4⟩:=ownl_ready2 (news:=[.int .i64 9,.int .i64 x,.slice none 0 0]) (qb:=qTy (Un.var x)) HO.out HW.out (var_tyv wr _ x) 24
     have R1:=hid r1
     have R2:=hid r2
     have R3:=hid r3
     have R4:=hid r4
     clear r1 r2 r3 r4 hx
     go_wp2_with (at_builtin;refine wpList_append_ownl _ rfl _ _ 22 rfl (fun _ => False) B2 24 i0 _ 3 40 Try.underlying22 HI0.out HIZ0.out HIZ1.out HIZ2.out rfl (by decide) _ j 1 (rowsQ qTy (Rl.take j)) (qTy (Un.var x)) rfl R1.out ⟨wr.heap.size,0,none⟩ 1 [.int .i64 9,.int .i64 x,.slice none 0 0] rfl rfl R2.out R3.out (by omega) (by decide) R4.out ?_)
     intro v' w6 hL6 hg6 hv6
     have hown : ∀ k,(Value.slice pv j cv).ownBlock = some k → B2 ≤ k:=fun k e => (HO.out.own k e).1
     have HF6 : Hid (Fr [] w w6):=hid ((HFR.out.alloc _).grown hg6 (fun k e => .inr (by have:=hown k e;have:=HB2.out.1;omega)))
     have HG6 : Hid (Fr (Value.slice pv j cv).ownBlock.toList wr w6):=hid (((Fr.refl _ wr).alloc _).grown hg6 (fun k hk => .inl (by simp [hk])))
     have HB6 : Hid (IntsB w6 fb fl):=hid (HBR.out.keep HG6.out (fun hx => by have:=hown fb (by simpa using hx);have:=HB2.out.2;omega))
     have HW6 : Hid (B2 ≤ w6.heap.size):=hid (Nat.le_trans HW.out HG6.out.size)
     have HL6:=hid hL6
     clear hL6 hg6 hv6 hown q0 ql
     go_wp2_with fail
     go_roundw
     case rel => exact ⟨j + 1,by go_num,by omega,hid (by rw [HTK.out,rowsQ_snoc];exact HL6.out),HF6,HB6,HW6⟩
     case measure => simp [RowKit.intOf];omega
    ·have hd2 : decide ((j : Int) < (n : Int)) = false:=by simp;omega
     have hd3 : decide (j < n) = false:=by simpa using hlt
     obtain rfl : j = n:=by omega
     obtain ⟨B3,hB3⟩ : ∃ B3,B3 = wr.heap.size:=⟨_,rfl⟩
     have HB3 : Hid (B3 = wr.heap.size):=hid hB3
     have HTR : Hid (TysV wr (fun k => k < B3) Rl (.slice pv j cv)):=hid (by
      have h1:=HO.out
      rw [List.take_of_length_le (by rw [HRL.out];exact Nat.le_refl _)] at h1
      unfold TysV
      rw [HRL.out]
      exact h1.inn2 (fun k _ h => h.elim) (fun g hg => by rw [hB3];exact (HO.out.own g hg).2))
     obtain ⟨L,hL⟩ : ∃ L,L = (List.range s.length).map fun i => Un.lel (Un.ap (Un.ren (Un.frOf fl)) ((zs[i]?).getD Un.zero)) i:=⟨_,rfl⟩
     have HLE : Hid (Un.Least s (Un.frOf fl) L):=hid (Un.least_of HOK.out HI.out HZL.out HZ.out hL)
     have HLL : Hid (L.length = j):=hid (by rw [HLE.out.len,HN.out])
     have HLG : Hid (∀ (i : Nat) (z : Ty),i < j → zs[i]? = some z → L[i]? = some (Un.lel (Un.ap (Un.ren (Un.frOf fl)) z) i)):=hid (fun i z hi hz => by rw [hL,List.getElem?_map,List.getElem?_range (by rw [← HN.out];exact hi),Option.map_some,hz];rfl)
     have HZO : Hid (∀ (i : Nat) (z : Ty),i < j → zs[i]? = some z → over j z = true):=hid (fun i z hi hz => by
      have h1:=Un.Res.over (HZ.out i z hz) HOK.out.hel (Un.over_nat (by rw [← HN.out];exact hi))
      rw [← HN.out] at h1
      exact h1)
     have HAP : Hid (∀ (i : Nat) (z : Ty),i < j → zs[i]? = some z → ∀ wx,Fr [] wr wx → Calls Try.prog 56 #[.slice ps j kp,.agg #[.int .i64 9,.int .i64 i,.slice none 0 0]] wx (TyQ B3 z wx)):=hid (fun i z hi hz wx hf => by
      have h1:=rapply_any B3 s (.slice ps s.length kp) HOK.out HSZ.out (HZ.out i z hz) (Un.over_nat (by rw [← HN.out];exact hi)) (by simp [Un.var,size,sizes]) [.int .i64 9,.int .i64 i,.slice none 0 0] wx (by rw [hB3];exact hf.size) ((TysV.weak (HV.out.keep0 HFR.out) (fun k hk _ => by rw [hB3];exact hk)).keep0 hf) (var_tyv _ _ _)
      rw [← HN.out] at h1
      exact h1)
     have HRE : Hid (∀ (i : Nat) (z : Ty) (cs : List Value),i < j → zs[i]? = some z → ∀ wx,Fr [] wr wx → TyV wx (fun _ => True) z cs → Calls Try.prog 73 #[.slice pv j cv,.agg cs.toArray] wx (TyQ B3 (Un.ap (Un.ren (Un.frOf fl)) z) wx)):=hid (fun i z cs hi hz wx hf hty => by
      have h1:=rename_any B3 Rl (.slice pv j cv) (HWD.out i z hz) (by rw [HRL.out];exact HZO.out i z hi hz) cs wx (by rw [hB3];exact hf.size) (HTR.out.keep0 hf) hty
      have e : Un.ap (Un.asg Rl) z = Un.ap (Un.ren (Un.frOf fl)) z:=Un.ap_congr z fun v hv => by
       obtain ⟨m,rfl,hm⟩:=(HZ.out i z hz).left0 HOK.out hv
       have hml:=(List.getElem?_eq_some_iff.1 hm).1
       obtain ⟨x,hx⟩ : ∃ x,fl[m]? = some x:=⟨_,List.getElem?_eq_getElem (by rw [HFL.out,HN.out];exact hml)⟩
       rw [Un.asg_get (HRV.out m x hx)]
       unfold Un.ren Un.frOf
       rw [Int.toNat_natCast,hx]
       have:=HFR2.out x (List.mem_of_getElem? hx)
       show Un.var x = Un.var ((x.toNat : Nat) : Int)
       rw [Int.toNat_of_nonneg this.1]
      rw [e] at h1
      exact h1)
     obtain ⟨n,hn⟩ : ∃ n,n = j:=⟨_,rfl⟩
     rw [← hn] at HLL HLG HZO HAP HRE HN hln ⊢
     have HFRW : Hid (Fr [] w wr):=hid HFR.out
     obtain ⟨wL,hwL⟩ : ∃ wL,wL = wr:=⟨_,rfl⟩
     have HFL0 : Hid (Fr [] wL wr):=hid (by rw [hwL];exact Fr.refl _ _)
     have HB3L : Hid (B3 = wL.heap.size):=hid (by rw [hwL];exact hB3)
     rw [← hwL] at HAP HRE HFRW
     clear hL hB3 hn hd2 hd3 hlt hj HTR HO HBR HFR HW HB3 hwL HFI HI HB2 HFL HFR2 HRV HRM HRL
     go_wp2_with fail
     go_loopw [8,9] (fun u8 x wr => ∃ j : Nat,x = .int .i64 j ∧ j ≤ n ∧ Hid (OwnL wr (fun _ => True) B3 24 3 j (rowsQ qTy (L.take j)) u8) ∧ Hid (Fr [] wL wr)) (fun _ x _ => n - (RowKit.intOf x).toNat)
     case atStart => exact ⟨0,rfl,Nat.zero_le _,hid (by rw [List.take_zero,rowsQ];exact OwnL.nil _ _ _ _ _),HFL0⟩
     case round =>
      obtain ⟨j,rfl,hj,HO,HFR⟩:=hrel
      obtain ⟨p8,c8,rfl⟩:=HO.out.shape
      by_cases hlt : j < n
      ·have hd2 : decide ((j : Int) < (n : Int)) = true:=by simp;omega
       have hd3 : decide (j < n) = true:=by simpa using hlt
       obtain ⟨z,hz⟩ : ∃ z,zs[j]? = some z:=⟨_,List.getElem?_eq_getElem (by rw [HZL.out,← HN.out];exact hlt)⟩
       have HC1:=hid (HAP.out j z hlt hz wr HFR.out)
       have HLJ:=hid (HLG.out j z hlt hz)
       have HRE2:=hid (fun cs => HRE.out j z cs hlt hz)
       obtain ⟨y,hy⟩ : ∃ y,y = Un.ap (Un.ren (Un.frOf fl)) z:=⟨_,rfl⟩
       rw [← hy] at HLJ HRE2
       obtain ⟨r,hr⟩ : ∃ r,r = Un.lel y j:=⟨_,rfl⟩
       rw [← hr] at HLJ
       have HR:=hid hr
       have HTK : Hid (L.take (j + 1) = L.take j ++ [r]):=hid (by rw [List.take_add_one,HLJ.out];rfl)
       clear hz hy hr
       go_wp2_with fail
       refine HC1.out.mono ?_
       rintro e w2 ⟨hf2,ds,rfl,hty⟩
       have HF2:=hid hf2
       obtain ⟨p2,c2,rfl,_⟩:=hty.shape
       have HC2:=hid (HRE2.out _ w2 (HFR.out.trans hf2) (TyV.weak hty (fun _ _ _ => trivial)))
       clear hf2 hty
       go_wp2_with fail
       refine HC2.out.mono ?_
       rintro e w3 ⟨hf3,ds,rfl,hty⟩
       have HF3 : Hid (Fr [] wr w3):=hid (HF2.out.trans hf3)
       obtain ⟨p3,c3,rfl,_⟩:=hty.shape
       have HO3:=hid (HO.out.keep HF3.out (by simp))
       have HTY : Hid (TyV w3 (fun k => True ∧ (Value.slice p8 j c8).ownBlock ≠ some k) y [.int .i64 (kd y),.int .i64 (nm y),.slice p3 (ar y).length c3]):=hid (TyV.weak hty (fun k _ hk => ⟨trivial,fun e => by
        have h1:=HO.out.own k e
        have h2:=HF2.out.size
        rcases hk with hk | hk <;> omega⟩))
       have HZ3 : Hid (B3 ≤ w3.heap.size):=hid (by have h1:=HFR.out.size;have h2:=HF3.out.size;have h3:=HB3L.out;omega)
       clear hf3 hty
       go_wp2_with fail
       obtain ⟨w4,hw4⟩ : ∃ w4,w4 = w3.alloc (.cells #[.int .i64 (kd y),.int .i64 (nm y),.slice p3 (ar y).length c3] 24):=⟨_,rfl⟩
       obtain ⟨O,hO⟩ : ∃ O,O = w3.heap.size:=⟨_,rfl⟩
       have HF4 : Hid (Fr [] w3 w4):=hid (by rw [hw4];exact (Fr.refl _ _).alloc _)
       have HO4 : Hid (Blk w4 O 24 #[.int .i64 (kd y),.int .i64 (nm y),.slice p3 (ar y).length c3]):=hid (by rw [hw4,hO];exact Blk.new _ _ _)
       have HOO : Hid (w3.heap.size ≤ O):=hid (by rw [hO];exact Nat.le_refl _)
       rw [← hw4,← hO]
       clear hw4 hO
       refine (rvariable_any y _ w4 _ (HTY.out.keep0 HF4.out)).mono ?_
       have fin : ∀ (w5 : World) (d0 d1 d2 : Value),Fr [] w3 w5 → TyV w5 (fun k => True ∧ (Value.slice p8 j c8).ownBlock ≠ some k) r [d0,d1,d2] →
         (OwnL (w5.alloc (.cells #[d0,d1,d2] 24)) (fun _ => True) B3 24 3 j (rowsQ qTy (L.take j)) (.slice p8 j c8) ∧ (∀ j' u,[d0,d1,d2][j']? = some u → (w5.alloc (.cells #[d0,d1,d2] 24)).cell? ((⟨w5.heap.size,0,none⟩ : Addr).add j') = some u) ∧ InN (w5.alloc (.cells #[d0,d1,d2] 24)) (fun k => True ∧ some k ≠ (Value.slice p8 j c8).ownBlock) (qTy r) [d0,d1,d2] ∧ B3 ≤ (w5.alloc (.cells #[d0,d1,d2] 24)).heap.size) ∧
         ∀ (v' : Value) (w6 : World),OwnL w6 (fun _ => True) B3 24 3 (j + 1) ((rowsQ qTy (L.take j)).app (qTy r)) v' → (w5.alloc (.cells #[d0,d1,d2] 24)).grownBy w6 (Value.slice p8 j c8).ownBlock → OwnL w6 (fun _ => True) B3 24 3 (j + 1) (rowsQ qTy (L.take (j + 1))) v' ∧ Fr [] wL w6:=fun w5 d0 d1 d2 hf hr => by
        refine ⟨ownl_ready2 (HO3.out.keep hf (by simp)) (Nat.le_trans HZ3.out hf.size) hr 24,fun v' w6 h1 h2 => ⟨by rw [HTK.out,rowsQ_snoc];exact h1,?_⟩⟩
        exact (((HFR.out.trans HF3.out).trans hf).alloc _).grown h2 (fun k hk => .inr (by have:=(HO3.out.own k hk).1;have:=HB3L.out;omega))
       have FIN:=hid fin
       clear fin
       by_cases h9 : kd y = 9
       ·have e1 : (kd y == 9) = true:=by simp [h9]
        rw [e1]
        rintro e w5 ⟨rfl,hf5⟩
        have HF5:=hid (HF4.out.trans hf5)
        have HO5:=hid (HO4.out.keep hf5 (by simp))
        have x0 : w5.cell? ⟨O,0,none⟩ = some (.int .i64 (kd y)):=HO5.out.cell 0
        have x1 : w5.cell? ⟨O,1,none⟩ = some (.int .i64 (nm y)):=HO5.out.cell 1
        have x2 : w5.cell? ⟨O,2,none⟩ = some (.slice p3 (ar y).length c3):=HO5.out.cell 2
        have xl : O < w5.heap.size:=HO5.out.lt
        by_cases hj9 : nm y = j
        ·have e2 : (nm y == (j : Int)) = true:=by simp [hj9]
         have hr0 : r = Un.zero:=by rw [HR.out];unfold Un.lel;rw [if_pos ⟨h9,hj9⟩]
         have f0:=HO5.out.frozen 0
         have f1:=HO5.out.frozen 1
         have f2:=HO5.out.frozen 2
         have hf6 : Fr [] w3 (((w5.setCell ⟨O,0,none⟩ (.int .i64 0)).setCell ⟨O,1,none⟩ (.int .i64 0)).setCell ⟨O,2,none⟩ (.slice none 0 0)):=HF5.out.set3 (b:=O) (.inr HOO.out) _ _ _
         obtain ⟨⟨r1,r2,r3,r4⟩,hfin⟩:=FIN.out (((w5.setCell ⟨O,0,none⟩ (.int .i64 0)).setCell ⟨O,1,none⟩ (.int .i64 0)).setCell ⟨O,2,none⟩ (.slice none 0 0)) (.int .i64 0) (.int .i64 0) (.slice none 0 0) hf6 (by rw [hr0];exact zero_tyv _ _)
         have esz : (((w5.setCell ⟨O,0,none⟩ (.int .i64 0)).setCell ⟨O,1,none⟩ (.int .i64 0)).setCell ⟨O,2,none⟩ (.slice none 0 0)).heap.size = w5.heap.size:=by simp [World.setCell]
         rw [esz] at r2
         have R1:=hid r1
         have R2:=hid r2
         have R3:=hid r3
         have R4:=hid r4
         have HFIN:=hid hfin
         clear hf5 e1 h9 hj9 r1 r2 r3 r4 hfin hr0 hf6 esz
         go_wp2_with (at_builtin;refine wpList_append_ownl _ rfl _ _ 22 rfl (fun _ => True) B3 24 i0 _ 3 40 Try.underlying22 HI0.out HIZ0.out HIZ1.out HIZ2.out rfl (by decide) _ j 1 (rowsQ qTy (L.take j)) (qTy r) rfl R1.out ⟨w5.heap.size,0,none⟩ 1 [.int .i64 0,.int .i64 0,.slice none 0 0] rfl rfl R2.out R3.out (by omega) (by decide) R4.out ?_)
         intro v' w6 hL6 hg6 hv6
         obtain ⟨h1,h2⟩:=HFIN.out v' w6 hL6 hg6
         have H1:=hid h1
         have H2:=hid h2
         clear h1 h2 hL6 hg6 hv6 x0 x1 x2 xl f0 f1 f2
         go_wp2_with fail
         go_roundw
         case rel => exact ⟨j + 1,by go_num,by omega,H1,H2⟩
         case measure => simp [RowKit.intOf];omega
        ·have e2 : (nm y == (j : Int)) = false:=by simpa using hj9
         have hr0 : r = y:=by rw [HR.out];unfold Un.lel;rw [if_neg (fun h => hj9 h.2)]
         obtain ⟨⟨r1,r2,r3,r4⟩,hfin⟩:=FIN.out w5 (.int .i64 (kd y)) (.int .i64 (nm y)) (.slice p3 (ar y).length c3) HF5.out (by rw [hr0];exact HTY.out.keep0 HF5.out)
         have R1:=hid r1
         have R2:=hid r2
         have R3:=hid r3
         have R4:=hid r4
         have HFIN:=hid hfin
         clear hf5 e1 h9 hj9 r1 r2 r3 r4 hfin hr0
         go_wp2_with (at_builtin;refine wpList_append_ownl _ rfl _ _ 22 rfl (fun _ => True) B3 24 i0 _ 3 40 Try.underlying22 HI0.out HIZ0.out HIZ1.out HIZ2.out rfl (by decide) _ j 1 (rowsQ qTy (L.take j)) (qTy r) rfl R1.out ⟨w5.heap.size,0,none⟩ 1 [.int .i64 (kd y),.int .i64 (nm y),.slice p3 (ar y).length c3] rfl rfl R2.out R3.out (by omega) (by decide) R4.out ?_)
         intro v' w6 hL6 hg6 hv6
         obtain ⟨h1,h2⟩:=HFIN.out v' w6 hL6 hg6
         have H1:=hid h1
         have H2:=hid h2
         clear h1 h2 hL6 hg6 hv6 x0 x1 x2 xl
         go_wp2_with fail
         go_roundw
         case rel => exact ⟨j + 1,by go_num,by omega,H1,H2⟩
         case measure => simp [RowKit.intOf];omega
       ·have e1 : (kd y == 9) = false:=by simp [h9]
        rw [e1]
        rintro e w5 ⟨rfl,hf5⟩
        have HF5:=hid (HF4.out.trans hf5)
        have HO5:=hid (HO4.out.keep hf5 (by simp))
        have x0 : w5.cell? ⟨O,0,none⟩ = some (.int .i64 (kd y)):=HO5.out.cell 0
        have x1 : w5.cell? ⟨O,1,none⟩ = some (.int .i64 (nm y)):=HO5.out.cell 1
        have x2 : w5.cell? ⟨O,2,none⟩ = some (.slice p3 (ar y).length c3):=HO5.out.cell 2
        have xl : O < w5.heap.size:=HO5.out.lt
        have hr0 : r = y:=by rw [HR.out];unfold Un.lel;rw [if_neg (fun h => h9 h.1)]
        obtain ⟨⟨r1,r2,r3,r4⟩,hfin⟩:=FIN.out w5 (.int .i64 (kd y)) (.int .i64 (nm y)) (.slice p3 (ar y).length c3) HF5.out (by rw [hr0];exact HTY.out.keep0 HF5.out)
        have R1:=hid r1
        have R2:=hid r2
        have R3:=hid r3
        have R4:=hid r4
        have HFIN:=hid hfin
        clear hf5 e1 h9 r1 r2 r3 r4 hfin hr0
        go_wp2_with (at_builtin;refine wpList_append_ownl _ rfl _ _ 22 rfl (fun _ => True) B3 24 i0 _ 3 40 Try.underlying22 HI0.out HIZ0.out HIZ1.out HIZ2.out rfl (by decide) _ j 1 (rowsQ qTy (L.take j)) (qTy r) rfl R1.out ⟨w5.heap.size,0,none⟩ 1 [.int .i64 (kd y),.int .i64 (nm y),.slice p3 (ar y).length c3] rfl rfl R2.out R3.out (by omega) (by decide) R4.out ?_)
        intro v' w6 hL6 hg6 hv6
        obtain ⟨h1,h2⟩:=HFIN.out v' w6 hL6 hg6
        have H1:=hid h1
        have H2:=hid h2
        clear h1 h2 hL6 hg6 hv6 x0 x1 x2 xl
        go_wp2_with fail
        go_roundw
        case rel => exact ⟨j + 1,by go_num,by omega,H1,H2⟩
        case measure => simp [RowKit.intOf];omega
      ·have hd2 : decide ((j : Int) < (n : Int)) = false:=by simp;omega
       have hd3 : decide (j < n) = false:=by simpa using hlt
       obtain rfl : j = n:=by omega
       go_wp2_with fail
       go_ret
       refine ⟨_,L,HLE.out,_,rfl,?_,HFRW.out.trans HFR.out⟩
       have h1:=HO.out
       rw [List.take_of_length_le (by rw [HLL.out];exact Nat.le_refl _)] at h1
       unfold TysV
       rw [HLL.out]
       exact h1.inn2 (fun _ _ _ => trivial) (fun _ _ => trivial)
end Go.Proofs.Ytcdlnhfgehhkcaa
