/- part of the proof -/
import Derived.Test.YtcdlnhfgehhkcaaQ02
import Derived.StillTailTactics
import Derived.Deep.QuietTactic
import Derived.BigQuiet
set_option linter.unusedVariables false
set_option linter.unusedSimpArgs false
set_option linter.unusedSectionVars false
namespace Go.Proofs.Ytcdlnhfgehhkcaa
open Go.RowKit Go.Lib
open Un (kd nm ar size sizes mapT subst rep)
def Lat (w1 w : World) : Prop:=w1.heap.size ≤ w.heap.size ∧ ∀ k,k < w1.heap.size → w.heap[k]? = w1.heap[k]?
theorem Lat.refl (w : World) : Lat w w:=⟨Nat.le_refl _,fun _ _ => rfl⟩
theorem Lat.fr {w1 w w' : World} (h : Lat w1 w) (hf : Fr [] w w') : Lat w1 w':=⟨Nat.le_trans h.1 hf.size,fun k hk => (hf.block k (Nat.lt_of_lt_of_le hk h.1) (by simp)).trans (h.2 k hk)⟩
theorem Fr.lat {w w' : World} (hf : Fr [] w w') : Lat w w':=(Lat.refl w).fr hf
theorem InN.lat {w1 w : World} {N : Nat → Prop} {q : Q} {cs : List Value} (h : InN w1 N q cs) (hl : Lat w1 w) : InN w N q cs:=h.mono (fun k hN hk => ⟨hN,Nat.lt_of_lt_of_le hk hl.1,hl.2 k hk⟩)
theorem TysV.lat {w1 w : World} {N : Nat → Prop} {l : List Ty} {v : Value} (h : TysV w1 N l v) (hl : Lat w1 w) : TysV w N l v:=InN.lat h hl
theorem Blk.lat {w1 w : World} {b T : Nat} {cs : Array Value} (h : Blk w1 b T cs) (hl : Lat w1 w) : Blk w b T cs:=(hl.2 b h.lt).trans h
theorem kept_lat (w1 : World) (N : Nat → Prop) : Kept w1.heap.size [] N (fun (_ : Unit) (w : World) => Lat w1 w):=
 ⟨fun _ w w' h hs hb => ⟨Nat.le_trans h.1 hs,fun k hk => (hb k hk).trans (h.2 k hk)⟩,fun _ _ h => h.1,(by simp),(by simp)⟩
theorem two_args (x y : Value) : (#[x] ++ #[y] : Array Value) = #[x,y]:=by simp
theorem enters_subst1 : Enters 53:=fun _ _ => by kernel_rfl
theorem rep_none {l : List Ty} {a : Ty} (h : ¬ (kd a = 5 ∧ 0 ≤ nm a ∧ nm a < l.length)) : rep l a = none:=by unfold rep;rw [if_neg h]
theorem rep_some {l : List Ty} {a : Ty} {n : Nat} (h : kd a = 5) (hn : nm a = n) (hl : n < l.length) : rep l a = some l[n]:=by
 unfold rep
 rw [if_pos ⟨h,by omega,by omega⟩,hn]
 exact List.getElem?_eq_getElem hl
set_option maxHeartbeats 1600000 in
theorem subst1_no (l : List Ty) (a : Ty) (cs : List Value) (w w1 : World) (N N' : Nat → Prop) (v : Value) (B : Nat) (hL : Lat w1 w) (hB : Blk w1 B 22 #[v]) (hv : TysV w1 N' l v) (h : TyV w N a cs) (hno : ¬ (kd a = 5 ∧ 0 ≤ nm a ∧ nm a < l.length)) :
  Calls Try.prog 53 #[.agg cs.toArray,.pointer (some ⟨B,0,none⟩)] w (StepP [] (fun (_ : Unit) (w : World) => Lat w1 w) ((),rep l a) w):=by
 obtain ⟨p,c,rfl,_⟩:=h.shape
 obtain ⟨pv,cv,rfl⟩:=hv.shape
 have hlm:=hv.len
 unfold maxLen at hlm
 have HB:=hid (hB.lat hL)
 have HL:=hid hL
 have HR:=hid (rep_none hno)
 have HD : Hid (StepP [] (fun (_ : Unit) (w : World) => Lat w1 w) ((),rep l a) w (.returned (.tuple #[.agg #[.int .i64 0,.int .i64 0,.slice none 0 0],.bool false])) ((w.alloc (.cells #[.int .i64 (kd a),.int .i64 (nm a),.slice p (ar a).length c] 24)).alloc (.cells #[.int .i64 0,.int .i64 0,.slice none 0 0] 24))):=by
  have hf : Fr [] w ((w.alloc (.cells #[.int .i64 (kd a),.int .i64 (nm a),.slice p (ar a).length c] 24)).alloc (.cells #[.int .i64 0,.int .i64 0,.slice none 0 0] 24)):=((Fr.refl _ _).alloc _).alloc _
  rw [HR.out]
  exact hid ⟨hf,hL.fr hf,.inl ⟨rfl,rfl⟩⟩
 have hbl : B < w.heap.size:=HB.out.lt
 have b0 : w.cell? ⟨B,0,none⟩ = some (.slice pv l.length cv):=HB.out.cell 0
 clear hL hB hv h
 by_cases h1 : kd a = 5
 ·have e1 : (kd a != 5) = false:=by simp [h1]
  by_cases h2 : nm a < 0
  ·have e2 : decide (nm a < 0) = true:=by simpa using h2
   clear h1 hno
   go_enter Try.func53,Try.ntmps53
   go_wp2_with fail
   exact bodyPost_ret (v:=.tuple #[.agg #[.int .i64 0,.int .i64 0,.slice none 0 0],.bool false]) (by simp [results,Try.results53,go_sem]) rfl HD.out
  ·have e2 : decide (nm a < 0) = false:=by simpa using h2
   have e3 : decide ((l.length : Int) ≤ nm a) = true:=by simp;omega
   clear h1 hno
   go_enter Try.func53,Try.ntmps53
   go_wp2_with fail
   exact bodyPost_ret (v:=.tuple #[.agg #[.int .i64 0,.int .i64 0,.slice none 0 0],.bool false]) (by simp [results,Try.results53,go_sem]) rfl HD.out
 ·have e1 : (kd a != 5) = true:=by simp [h1]
  clear h1 hno
  go_enter Try.func53,Try.ntmps53
  go_wp2_with fail
  exact bodyPost_ret (v:=.tuple #[.agg #[.int .i64 0,.int .i64 0,.slice none 0 0],.bool false]) (by simp [results,Try.results53,go_sem]) rfl HD.out
set_option maxRecDepth 100000 in
set_option maxHeartbeats 1600000 in
theorem subst1_yes (l : List Ty) (a : Ty) (cs : List Value) (w w1 : World) (N N' : Nat → Prop) (v : Value) (B n : Nat) (hL : Lat w1 w) (hB : Blk w1 B 22 #[v]) (hv : TysV w1 N' l v) (h : TyV w N a cs) (h5 : kd a = 5) (hnm : nm a = n) (hnl : n < l.length) (hsz : ∀ u ∈ l,size u ≤ 100000) :
  Calls Try.prog 53 #[.agg cs.toArray,.pointer (some ⟨B,0,none⟩)] w (StepP [] (fun (_ : Unit) (w : World) => Lat w1 w) ((),rep l a) w):=by
 obtain ⟨p,c,rfl,_⟩:=h.shape
 have HR:=hid (rep_some h5 hnm hnl)
 have HB:=hid (hB.lat hL)
 have HL:=hid hL
 rcases (hv.lat hL).cases with ⟨rfl,_⟩ | ⟨_,b,o,cap,rfl,hc,hm,hat⟩
 ·simp at hnl
 have hlm:=hv.len
 unfold maxLen at hlm hm
 obtain ⟨p1,c1,k1,hb,g0,g1,g2⟩:=hat.el (Fr.refl [] w) (by simp) (List.getElem?_eq_getElem hnl)
 obtain ⟨u,hu⟩ : ∃ u,u = l[n]:=⟨_,rfl⟩
 rw [← hu] at g0 g1 g2 k1 HR
 have K1:=hid k1
 have HSU : Hid (size u ≤ 100000):=hid (by rw [hu];exact hsz _ (List.getElem_mem _))
 have hbl : B < w.heap.size:=HB.out.lt
 have b0 : w.cell? ⟨B,0,none⟩ = some (.slice (some ⟨b,o,none⟩) l.length cap):=HB.out.cell 0
 have e3 : decide ((l.length : Int) ≤ (n : Int)) = false:=by simp;omega
 have e4 : decide (n < l.length) = true:=by simpa using hnl
 have e2 : decide ((n : Int) < 0) = false:=by simp
 rw [h5,hnm]
 clear hL hB hv h hat k1 hu h5 hnm hsz
 go_enter Try.func53,Try.ntmps53
 go_wp2_with fail
 obtain ⟨w2,hw2⟩ : ∃ w2,w2 = (w.alloc (.cells #[.int .i64 5,.int .i64 n,.slice p (ar a).length c] 24)).alloc (.cells #[.int .i64 0,.int .i64 0,.slice none 0 0] 24):=⟨_,rfl⟩
 have HB1 : Hid (Blk w2 (w.heap.size + 1) 24 #[.int .i64 0,.int .i64 0,.slice none 0 0]):=hid (by rw [hw2];exact Blk.new_at (by simp))
 have HF0 : Hid (Fr [] w w2):=hid (by rw [hw2];exact ((Fr.refl _ _).alloc _).alloc _)
 rw [← hw2]
 clear hw2 g0 g1 g2 b0
 refine (copied_any u _ w2 N' (K1.out.keep0 HF0.out) HSU.out).mono ?_
 rintro e w3 ⟨hf3,ds,rfl,hty⟩
 obtain ⟨p2,c2,rfl,_⟩:=hty.shape
 have HBs:=HB1.out.keep hf3 (by simp)
 have hbl1 : w.heap.size + 1 < w2.heap.size:=HB1.out.lt
 obtain ⟨q1,q2⟩:=NewP.stored (b:=w.heap.size + 1) (by omega) hbl1 HBs (HF0.out.trans hf3) hty
 have Q2:=hid q2
 have c0 : w3.cell? ⟨w.heap.size + 1,0,none⟩ = some (.int .i64 0):=HBs.cell 0
 have c1 : w3.cell? ⟨w.heap.size + 1,1,none⟩ = some (.int .i64 0):=HBs.cell 1
 have c2' : w3.cell? ⟨w.heap.size + 1,2,none⟩ = some (.slice none 0 0):=HBs.cell 2
 have f0 : w3.frozen? ⟨w.heap.size + 1,0,none⟩ = false:=HBs.frozen 0
 have f1 : w3.frozen? ⟨w.heap.size + 1,1,none⟩ = false:=HBs.frozen 1
 have f2 : w3.frozen? ⟨w.heap.size + 1,2,none⟩ = false:=HBs.frozen 2
 have hle : w.heap.size + 1 < w3.heap.size:=HBs.lt
 have D0:=hid (q1.cell 0)
 have D1:=hid (q1.cell 1)
 have D2:=hid (q1.cell 2)
 clear q1 q2 HBs hf3 hty
 go_wp2_with fail
 have d0:=D0.out
 have d1:=D1.out
 have d2:=D2.out
 refine bodyPost_ret (v:=.tuple #[.agg #[.int .i64 (kd u),.int .i64 (nm u),.slice p2 (ar u).length c2],.bool true]) (by simp [results,Try.results53,go_sem,d0,d1,d2]) rfl ?_
 obtain ⟨z1,zs,z2,z3⟩:=Q2.out
 refine ⟨z1,HL.out.fr z1,.inr ⟨u,_,HR.out,rfl,?_⟩⟩
 cases z2
 exact z3
theorem subst1_any (l : List Ty) (a : Ty) (cs : List Value) (w w1 : World) (N N' : Nat → Prop) (v : Value) (B : Nat) (hL : Lat w1 w) (hB : Blk w1 B 22 #[v]) (hv : TysV w1 N' l v) (h : TyV w N a cs) (hsz : ∀ u ∈ l,size u ≤ 100000) :
  Calls Try.prog 53 #[.agg cs.toArray,.pointer (some ⟨B,0,none⟩)] w (StepP [] (fun (_ : Unit) (w : World) => Lat w1 w) ((),rep l a) w):=by
 by_cases hno : kd a = 5 ∧ 0 ≤ nm a ∧ nm a < l.length
 ·exact subst1_yes l a cs w w1 N N' v B (nm a).toNat hL hB hv h hno.1 (by omega) (by omega) hsz
 ·exact subst1_no l a cs w w1 N N' v B hL hB hv h hno
set_option maxRecDepth 100000 in
set_option maxHeartbeats 1600000 in
theorem subst_any (l : List Ty) (t : Ty) (v : Value) (cs : List Value) (w : World) (N N' : Nat → Prop) (hv : TysV w N' l v) (h : TyV w N t cs) (hs : size t ≤ 100000) (hsz : ∀ u ∈ l,size u ≤ 100000) :
  Calls Try.prog 17 #[v,.agg cs.toArray] w (NewP (subst l t) w):=by
 obtain ⟨p,c,rfl,_⟩:=h.shape
 obtain ⟨pv,cv,rfl⟩:=hv.shape
 obtain ⟨w1,hw1⟩ : ∃ w1,w1 = ((w.alloc (.cells #[.slice pv l.length cv] 22)).alloc (.cells #[.int .i64 (kd t),.int .i64 (nm t),.slice p (ar t).length c] 24)).alloc (.cells #[.int .i64 0,.int .i64 0,.slice none 0 0] 24):=⟨_,rfl⟩
 have HF0 : Hid (Fr [] w w1):=hid (by rw [hw1];exact (((Fr.refl _ _).alloc _).alloc _).alloc _)
 have HBv : Hid (Blk w1 w.heap.size 22 #[.slice pv l.length cv]):=hid (by rw [hw1];exact ((Blk.new _ _ _).alloc _).alloc _)
 have HB1 : Hid (Blk w1 (w.heap.size + 1 + 1) 24 #[.int .i64 0,.int .i64 0,.slice none 0 0]):=hid (by rw [hw1];exact Blk.new_at (by simp))
 have HV:=hid (hv.keep0 HF0.out)
 have HM : Hid (Calls Try.prog 52 #[.agg #[.int .i64 (kd t),.int .i64 (nm t),.slice p (ar t).length c],.func (.func 53) #[] #[.pointer (some ⟨w.heap.size,0,none⟩)]] w1 (NewP (subst l t) w1)):=
  hid ((mapped_any 53 #[.pointer (some ⟨w.heap.size,0,none⟩)] w1.heap.size [] N (fun (_ : Unit) (w : World) => Lat w1 w) (fun s a => some (s,rep l a)) enters_subst1 (kept_lat w1 N) (size t) t (Nat.le_refl _) hs
   (fun a _ s cs wx r hI ht hr => by cases hr;rw [two_args];exact subst1_any l a cs wx w1 N N' _ w.heap.size hI HBv.out HV.out ht hsz) () _ w1 ((),subst l t) (Lat.refl w1) (h.keep0 HF0.out) (by rw [mapS_pure];rfl)).mono (fun e w' hp => hp.new))
 have hlm:=hv.len
 unfold maxLen at hlm
 clear h hv hs hsz
 go_enter Try.func17,Try.ntmps17
 go_wp2_with fail
 rw [← hw1]
 clear hw1
 refine HM.out.mono ?_
 rintro e w2 ⟨hf2,ds,rfl,hty⟩
 obtain ⟨p2,c2,rfl,_⟩:=hty.shape
 have HBs:=HB1.out.keep hf2 (by simp)
 have hbl : w.heap.size + 1 + 1 < w1.heap.size:=HB1.out.lt
 obtain ⟨q1,q2⟩:=NewP.stored (b:=w.heap.size + 1 + 1) (by omega) hbl HBs (HF0.out.trans hf2) hty
 have Q2:=hid q2
 have c0 : w2.cell? ⟨w.heap.size + 1 + 1,0,none⟩ = some (.int .i64 0):=HBs.cell 0
 have c1 : w2.cell? ⟨w.heap.size + 1 + 1,1,none⟩ = some (.int .i64 0):=HBs.cell 1
 have c2' : w2.cell? ⟨w.heap.size + 1 + 1,2,none⟩ = some (.slice none 0 0):=HBs.cell 2
 have f0 : w2.frozen? ⟨w.heap.size + 1 + 1,0,none⟩ = false:=HBs.frozen 0
 have f1 : w2.frozen? ⟨w.heap.size + 1 + 1,1,none⟩ = false:=HBs.frozen 1
 have f2 : w2.frozen? ⟨w.heap.size + 1 + 1,2,none⟩ = false:=HBs.frozen 2
 have hle : w.heap.size + 1 + 1 < w2.heap.size:=HBs.lt
 have D0:=hid (q1.cell 0)
 have D1:=hid (q1.cell 1)
 have D2:=hid (q1.cell 2)
 clear q1 q2 HBs hf2 hty
 go_wp2_with fail
 have d0:=D0.out
 have d1:=D1.out
 have d2:=D2.out
 exact bodyPost_ret (v:=.agg #[.int .i64 (kd (subst l t)),.int .i64 (nm (subst l t)),.slice p2 (ar (subst l t)).length c2]) (by simp [results,Try.results17,go_sem,d0,d1,d2]) rfl Q2.out
open Un (kd nm ar size sizes same sames)
theorem eqF_same : ∀ (l l' : List Ty),eqF (fun (s : Unit) a b => (s,same a b)) () l l' = ((),sames l l'):=by
 have key : ∀ (l l' : List Ty),l.length = l'.length → eqS (fun (s : Unit) a b => (s,same a b)) () l l' = ((),sames l l'):=by
  intro l
  induction l with
  | nil =>
   intro l' h
   cases l' with
   | nil => simp [eqS,sames]
   | cons b r => simp at h
  | cons a r ih =>
   intro l' h
   cases l' with
   | nil => simp at h
   | cons b r' =>
    rw [eqS,sames,ih r' (by simpa using h)]
    cases same a b <;> simp
 intro l l'
 unfold eqF
 by_cases h : l.length = l'.length
 ·rw [if_pos h,key l l' h]
 ·rw [if_neg h]
  cases hs : sames l l' with
  | false => rfl
  | true => exact absurd (Un.sames_len hs) h
theorem size_ar {x a : Ty} (h : x ∈ ar a) : size x < size a:=by cases a;exact Un.size_lt h
theorem same_mk (a b : Ty) : same a b = ((kd a == kd b && nm a == nm b) && sames (ar a) (ar b)):=by
 cases a;cases b;rw [same];rfl
theorem samehead_any (a b : Ty) (cs ds : List Value) (w : World) (N N' : Nat → Prop) (h : TyV w N a cs) (h' : TyV w N' b ds) : Calls Try.prog 47 #[.agg cs.toArray,.agg ds.toArray] w (LookP (kd a == kd b && nm a == nm b) w):=by
 obtain ⟨p,c,rfl,_⟩:=h.shape
 obtain ⟨p',c',rfl,_⟩:=h'.shape
 clear h h'
 cases e1 : (kd a == kd b) with
 | false =>
  go_enter Try.func47,Try.ntmps47
  go_wp2_with fail
  go_ret
  exact ⟨rfl,((Fr.refl _ _).alloc _).alloc _⟩
 | true =>
  go_enter Try.func47,Try.ntmps47
  go_wp2_with fail
  go_ret
  exact ⟨rfl,((Fr.refl _ _).alloc _).alloc _⟩
theorem enters_same : Enters 49:=fun _ _ => by kernel_rfl
set_option maxHeartbeats 1600000 in
theorem same_any (N N' : Nat → Prop) : ∀ (n : Nat) (a : Ty),size a ≤ n → ∀ (b : Ty) (cs ds : List Value) (w : World),TyV w N a cs → TyV w N' b ds → Calls Try.prog 49 #[.agg cs.toArray,.agg ds.toArray] w (LookP (same a b) w):=by
 intro n
 induction n with
 | zero => intro t h;exact absurd (Un.size_pos t) (by omega)
 | succ n ih =>
  intro a hn b cs ds w h h'
  have IH : Hid (∀ (v v' : Value) (w : World),TysV w N (ar a) v → TysV w N' (ar b) v' → Calls Try.prog 48 #[v,v',.func (.func 49) #[] #[]] w (LookP (sames (ar a) (ar b)) w)):=by
   refine hid fun v v' w hv hv' => ?_
   have h1:=equalfunc_any 49 #[] [] N N' (fun (_ : Unit) (_ : World) => True) (fun s a b => (s,same a b)) enters_same (by simp) (by simp) (fun _ _ _ _ _ => trivial) (ar a) (ar b)
    (fun x hx y _ s cs ds w _ ht ht' => (ih x (by have:=size_ar hx;omega) y cs ds w ht ht').mono (fun e w' hp => ⟨hp.1,hp.2,trivial⟩)) v v' () w trivial hv hv'
   refine h1.mono fun e w' hp => ?_
   rw [eqF_same] at hp
   exact ⟨hp.1,hp.2.1⟩
  have HS:=hid (same_mk a b)
  obtain ⟨p,c,rfl,ha⟩:=h.shape
  obtain ⟨p',c',rfl,hb⟩:=h'.shape
  have HA:=hid ha
  have HB:=hid hb
  obtain ⟨w1,hw1⟩ : ∃ w1,w1 = (w.alloc (.cells #[.int .i64 (kd a),.int .i64 (nm a),.slice p (ar a).length c] 24)).alloc (.cells #[.int .i64 (kd b),.int .i64 (nm b),.slice p' (ar b).length c'] 24):=⟨_,rfl⟩
  have HF0 : Hid (Fr [] w w1):=hid (by rw [hw1];exact ((Fr.refl _ _).alloc _).alloc _)
  have HB0 : Hid (Blk w1 w.heap.size 24 #[.int .i64 (kd a),.int .i64 (nm a),.slice p (ar a).length c]):=hid (by rw [hw1];exact (Blk.new _ _ _).alloc _)
  have HB1 : Hid (Blk w1 (w.heap.size + 1) 24 #[.int .i64 (kd b),.int .i64 (nm b),.slice p' (ar b).length c']):=hid (by rw [hw1];exact Blk.new_at (by simp))
  have HH:=hid (samehead_any a b _ _ w1 N N' (h.keep0 HF0.out) (h'.keep0 HF0.out))
  clear h h' ha hb ih hn
  go_enter Try.func49,Try.ntmps49
  go_wp2_with fail
  rw [← hw1]
  clear hw1
  refine HH.out.mono ?_
  rintro e w2 ⟨rfl,hf2⟩
  have HF2:=hid (HF0.out.trans hf2)
  have HC0:=hid (HB0.out.keep hf2 (by simp))
  have HC1:=hid (HB1.out.keep hf2 (by simp))
  clear hf2
  cases hg : (kd a == kd b && nm a == nm b) with
  | false =>
   have HG:=hid hg
   clear hg
   go_wp2_with fail
   go_ret
   exact ⟨by rw [HS.out,HG.out];rfl,HF2.out⟩
  | true =>
   have HG:=hid hg
   clear hg
   have hb0 : w.heap.size < w2.heap.size:=HC0.out.lt
   have hb1 : w.heap.size + 1 < w2.heap.size:=HC1.out.lt
   have b0 : w2.cell? ⟨w.heap.size,2,none⟩ = some (.slice p (ar a).length c):=HC0.out.cell 2
   have b1 : w2.cell? ⟨w.heap.size + 1,2,none⟩ = some (.slice p' (ar b).length c'):=HC1.out.cell 2
   go_wp2_with fail
   refine (IH.out _ _ _ (HA.out.keep0 HF2.out) (HB.out.keep0 HF2.out)).mono ?_
   rintro e w3 ⟨rfl,hf3⟩
   have HF3:=hid (HF2.out.trans hf3)
   clear hf3 b0 b1 hb0 hb1
   go_wp2_with fail
   go_ret
   exact ⟨by rw [HS.out,HG.out];rfl,HF3.out⟩
set_option maxRecDepth 100000 in
set_option maxHeartbeats 1600000 in
theorem rsameall_any (N N' : Nat → Prop) (l l' : List Ty) (w : World) (hF : ∀ a ∈ l,∀ b ∈ l',∀ (cs ds : List Value) (w : World),TyV w N a cs → TyV w N' b ds → Calls Try.prog 16 #[.agg cs.toArray,.agg ds.toArray] w (LookP (same a b) w))
  (v v' : Value) (h : TysV w N l v) (h' : TysV w N' l' v') : Calls Try.prog 15 #[v,v'] w (LookP (sames l l') w):=by
 have HF:=hid hF
 have hlm:=h.len
 have hlm':=h'.len
 unfold maxLen at hlm hlm'
 clear hF
 by_cases hlen : l.length = l'.length
 ·have hd : ((l.length : Int) != (l'.length : Int)) = false:=by rw [hlen];simp
  have HL:=hid hlen
  rcases h.cases with ⟨rfl,p,c,rfl⟩ | ⟨hn,b,o,cap,rfl,hc,hm,hat⟩
  ·have hl' : l' = []:=List.eq_nil_of_length_eq_zero hlen.symm
   subst hl'
   obtain ⟨p',c',rfl⟩:=h'.shape
   clear h h' hlen
   simp only [List.length_nil] at hd hlm hlm' ⊢
   go_enter Try.func15,Try.ntmps15
   go_wp2_with fail
   go_loopw [5] (fun v wr => v = .int .i64 0 ∧ wr = w) (fun v _ => 0)
   case atStart => exact ⟨rfl,rfl⟩
   case round =>
    obtain ⟨rfl,rfl⟩:=hrel
    go_wp2_with fail
    go_ret
    exact ⟨by rw [sames];rfl,Fr.refl _ _⟩
  ·rcases h'.cases with ⟨rfl,p,c,rfl⟩ | ⟨hn',b',o',cap',rfl,hc',hm',hat'⟩
   ·exfalso;have h0 : l.length = 0:=hlen;omega
   have hlen2:=hlen
   clear hlen h h'
   obtain ⟨n,hn2⟩ : ∃ n,n = l.length:=⟨_,rfl⟩
   have hn3 : l'.length = n:=by omega
   rw [← hn2] at hd hlm hc hn hlen2
   rw [hn3] at hd hlm' hc' hn' hlen2
   have HA:=hid hat
   have HA':=hid hat'
   have HN2:=hid hn2
   have HN3:=hid hn3
   unfold maxLen at hm hm'
   clear hat hat' hlen2 hd hn'
   have hd : ((n : Int) != (n : Int)) = false:=by simp
   rw [hn3,← hn2]
   clear hn2 hn3
   go_enter Try.func15,Try.ntmps15
   go_wp2_with fail
   go_loopw [5] (fun v wr => ∃ i : Nat,v = .int .i64 i ∧ i ≤ n ∧ Hid (Fr [] w wr) ∧ Hid (∀ j,j < i → ∀ a b,l[j]? = some a → l'[j]? = some b → same a b = true)) (fun v _ => n - (RowKit.intOf v).toNat)
   case atStart => exact ⟨0,rfl,by omega,hid (Fr.refl _ _),hid (fun j hj => by omega)⟩
   case round =>
    obtain ⟨i,rfl,hi,HFR,HG⟩:=hrel
    by_cases hlt : i < n
    ·have hd2 : decide ((i : Int) < (n : Int)) = true:=by simp;omega
     have hd3 : decide (i < n) = true:=by simpa using hlt
     have hi1 : i < l.length:=by have:=HN2.out;omega
     have hi2 : i < l'.length:=by have:=HN3.out;omega
     obtain ⟨p1,c1,k1,hb,g0,g1,g2⟩:=HA.out.el HFR.out (by simp) (List.getElem?_eq_getElem hi1)
     obtain ⟨p2,c2,k2,hb',g0',g1',g2'⟩:=HA'.out.el HFR.out (by simp) (List.getElem?_eq_getElem hi2)
     have K1:=hid k1
     have K2:=hid k2
     obtain ⟨a,ha⟩ : ∃ a,a = l[i]:=⟨_,rfl⟩
     obtain ⟨b2,hb2⟩ : ∃ a,a = l'[i]:=⟨_,rfl⟩
     have HMA : Hid (l[i]? = some a):=hid (by rw [ha];exact List.getElem?_eq_getElem _)
     have HMB : Hid (l'[i]? = some b2):=hid (by rw [hb2];exact List.getElem?_eq_getElem _)
     rw [← ha] at g0 g1 g2 K1
     rw [← hb2] at g0' g1' g2' K2
     clear k1 k2 ha hb2 hi1 hi2
     go_wp2_with fail
     go_still_tail 8,(by kernel_rfl)
     change wpList _ _ _ _ _ wr.drew
     have HF2 : Hid (Fr [] w wr.drew):=hid HFR.out.drew
     have K1' : Hid (TyV wr.drew N a [.int .i64 (kd a),.int .i64 (nm a),.slice p1 (ar a).length c1]):=hid (K1.out.keep0 ((Fr.refl _ _).drew))
     have K2' : Hid (TyV wr.drew N' b2 [.int .i64 (kd b2),.int .i64 (nm b2),.slice p2 (ar b2).length c2]):=hid (K2.out.keep0 ((Fr.refl _ _).drew))
     clear g0 g1 g2 g0' g1' g2' hb hb' K1 K2 HFR
     generalize wr.drew = w2 at HF2 K1' K2'
     go_wp2_with fail
     refine (HF.out a (List.mem_of_getElem? HMA.out) b2 (List.mem_of_getElem? HMB.out) _ _ _ K1'.out K2'.out).mono ?_
     rintro e w3 ⟨rfl,hf3⟩
     have HF3:=hid (HF2.out.trans hf3)
     clear hf3
     cases hgd : same a b2 with
     | true =>
      have HB:=hid hgd
      clear hgd
      go_wp2_with fail
      go_roundw
      case rel => exact ⟨i + 1,by go_num,by omega,HF3,hid (fun j hj x y hx hy => by
       by_cases hj' : j < i
       ·exact HG.out j hj' x y hx hy
       ·obtain rfl : j = i:=by omega
        rw [HMA.out] at hx
        rw [HMB.out] at hy
        cases hx
        cases hy
        exact HB.out)⟩
      case measure => simp [RowKit.intOf];omega
     | false =>
      have hall : sames l l' = false:=by
       cases hs : sames l l' with
       | false => rfl
       | true =>
        have:=(Un.sames_iff.1 hs).2 i a b2 HMA.out HMB.out
        rw [this] at hgd;cases hgd
      have HAL:=hid hall
      clear hgd hall
      go_wp2_with fail
      go_ret
      exact ⟨by rw [HAL.out];rfl,HF3.out⟩
    ·have hd2 : decide ((i : Int) < (n : Int)) = false:=by simp;omega
     have hd3 : decide (i < n) = false:=by simpa using hlt
     have hall : sames l l' = true:=Un.sames_iff.2 ⟨HL.out,fun j a b hj hb => HG.out j (by
      have : j < l.length:=by
       rcases Nat.lt_or_ge j l.length with h | h
       ·exact h
       ·rw [List.getElem?_eq_none h] at hj;cases hj
      have:=HN2.out
      omega) a b hj hb⟩
     have HAL:=hid hall
     clear hall
     go_wp2_with fail
     go_ret
     exact ⟨by rw [HAL.out];rfl,HFR.out⟩
 ·have hd : ((l.length : Int) != (l'.length : Int)) = true:=by simp;omega
  have hall : sames l l' = false:=by
   cases hs : sames l l' with
   | false => rfl
   | true => exact absurd (Un.sames_len hs) hlen
  have HAL:=hid hall
  obtain ⟨p,c,rfl⟩:=h.shape
  obtain ⟨p',c',rfl⟩:=h'.shape
  clear hall h h' hlen
  go_enter Try.func15,Try.ntmps15
  go_wp2_with fail
  go_ret
  exact ⟨by rw [HAL.out];rfl,Fr.refl _ _⟩
set_option maxHeartbeats 1600000 in
theorem rsame_any (N N' : Nat → Prop) : ∀ (n : Nat) (a : Ty),size a ≤ n → ∀ (b : Ty) (cs ds : List Value) (w : World),TyV w N a cs → TyV w N' b ds → Calls Try.prog 16 #[.agg cs.toArray,.agg ds.toArray] w (LookP (same a b) w):=by
 intro n
 induction n with
 | zero => intro t h;exact absurd (Un.size_pos t) (by omega)
 | succ n ih =>
  intro a hn b cs ds w h h'
  have IH : Hid (∀ (v v' : Value) (w : World),TysV w N (ar a) v → TysV w N' (ar b) v' → Calls Try.prog 15 #[v,v'] w (LookP (sames (ar a) (ar b)) w)):=
   hid fun v v' w hv hv' => rsameall_any N N' (ar a) (ar b) w (fun x hx y _ cs ds w ht ht' => ih x (by have:=size_ar hx;omega) y cs ds w ht ht') v v' hv hv'
  have HS:=hid (same_mk a b)
  obtain ⟨p,c,rfl,ha⟩:=h.shape
  obtain ⟨p',c',rfl,hb⟩:=h'.shape
  obtain ⟨w1,hw1⟩ : ∃ w1,w1 = (w.alloc (.cells #[.int .i64 (kd a),.int .i64 (nm a),.slice p (ar a).length c] 24)).alloc (.cells #[.int .i64 (kd b),.int .i64 (nm b),.slice p' (ar b).length c'] 24):=⟨_,rfl⟩
  have HF0 : Hid (Fr [] w w1):=hid (by rw [hw1];exact ((Fr.refl _ _).alloc _).alloc _)
  have HA:=hid (ha.keep0 HF0.out)
  have HB:=hid (hb.keep0 HF0.out)
  clear h h' ha hb ih hn
  by_cases hk : kd a = kd b ∧ nm a = nm b
  ·have e1 : (kd a == kd b) = true:=by simp [hk.1]
   have e2 : (nm a == nm b) = true:=by simp [hk.2]
   have HG : Hid (same a b = sames (ar a) (ar b)):=hid (by rw [HS.out,e1,e2];rfl)
   clear hk
   go_enter Try.func16,Try.ntmps16
   go_wp2_with fail
   rw [← hw1]
   clear hw1
   refine (IH.out _ _ _ HA.out HB.out).mono ?_
   rintro e w3 ⟨rfl,hf3⟩
   have HF3:=hid (HF0.out.trans hf3)
   clear hf3
   go_wp2_with fail
   go_ret
   exact ⟨by rw [HG.out];rfl,HF3.out⟩
  ·have HG : Hid (same a b = false):=hid (by
    rw [HS.out]
    by_cases h1 : kd a = kd b
    ·have : ¬ nm a = nm b:=fun h => hk ⟨h1,h⟩
     simp [h1,this]
    ·simp [h1])
   by_cases h1 : kd a = kd b
   ·have e1 : (kd a == kd b) = true:=by simp [h1]
    have e2 : (nm a == nm b) = false:=by simp;exact fun h => hk ⟨h1,h⟩
    clear hk h1
    go_enter Try.func16,Try.ntmps16
    go_wp2_with fail
    go_ret
    exact ⟨by rw [HG.out];rfl,by rw [← hw1];exact HF0.out⟩
   ·have e1 : (kd a == kd b) = false:=by simp [h1]
    clear hk h1
    go_enter Try.func16,Try.ntmps16
    go_wp2_with fail
    go_ret
    exact ⟨by rw [HG.out];rfl,by rw [← hw1];exact HF0.out⟩
end Go.Proofs.Ytcdlnhfgehhkcaa
