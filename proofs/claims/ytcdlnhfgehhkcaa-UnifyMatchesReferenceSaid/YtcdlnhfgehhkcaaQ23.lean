/- part of the proof -/
import Derived.Test.YtcdlnhfgehhkcaaQ17
import Derived.Test.YtcdlnhfgehhkcaaQ20
import Derived.Test.YtcdlnhfgehhkcaaQ22
set_option linter.unusedVariables false
set_option linter.unusedSimpArgs false
set_option linter.unusedSectionVars false
namespace Go.Proofs.Ytcdlnhfgehhkcaa
open Go.RowKit Go.Lib
open Un (kd nm ar size sizes depth unsolved vin appG)
namespace Un
def appsG (E : List Ty) (fe fa : Nat) : List Ty → Option (List Ty)
 | [] => some []
 | x :: l => match appG E fe fa x with
  | none => none
  | some r => (appsG E fe fa l).map (r :: ·)
def tailG (fe fa : Nat) (a : Ty) (out : List Ty) : Option (Except Int (List Ty)):=
 if ((out ++ [a]).all fun t => decide (size t ≤ 90000) && vin (out.length + 1 : Nat) t) = true then
  match depthsOf (out ++ [a]) with
  | none => none
  | some d => if d.2 = false then some (.error 8) else if (d.1.any fun n => decide (8 < n)) = true then some (.error 2) else (appsG out fe fa out).map .ok
 else none
def unifiedG (fs f fe fa : Nat) (s : List Ty) (a b : Ty) : Option (Except Int (List Ty)):=
 match newS fs f s.length 0 s (fresh s.length) with
 | some (some ts0) => match joinG fs f s.length (add (add ts0 a).1 b).1 [((add ts0 a).2,(add (add ts0 a).1 b).2)] with
  | none => none
  | some none => some (.error 8)
  | some (some ts) => match sol fs s.length ts s.length with
   | none => none
   | some y => tailG fe fa a y.2.2
 | _ => none
theorem appsG_len {E : List Ty} {fe fa : Nat} : ∀ {l rs : List Ty},appsG E fe fa l = some rs → rs.length = l.length
 | [],rs,h => by rw [appsG] at h;cases h;rfl
 | x :: l,rs,h => by
  rw [appsG] at h
  split at h
  ·cases h
  ·obtain ⟨r2,h1,rfl⟩:=Option.map_eq_some_iff.1 h
   simp [appsG_len h1]
theorem appsG_get {E : List Ty} {fe fa : Nat} : ∀ {l rs : List Ty} {i : Nat} {x : Ty},appsG E fe fa l = some rs → l[i]? = some x → ∃ r,appG E fe fa x = some r ∧ rs[i]? = some r
 | [],rs,i,x,h,hx => by simp at hx
 | y :: l,rs,i,x,h,hx => by
  rw [appsG] at h
  split at h
  ·cases h
  ·rename_i r hr
   obtain ⟨r2,h1,rfl⟩:=Option.map_eq_some_iff.1 h
   cases i with
   | zero => simp only [List.getElem?_cons_zero,Option.some.injEq] at hx;subst hx;exact ⟨r,hr,by simp⟩
   | succ i => simp only [List.getElem?_cons_succ] at hx ⊢;exact appsG_get h1 hx
theorem newS_args {fs f A : Nat} {n : Int} : ∀ {l : List Ty} {i : Nat} {ts r : List Tm},newS fs f n i l ts = some (some r) → (∀ t ∈ l,size t ≤ A) → (∀ a ∈ ts,a.args.length ≤ A) → (∀ a ∈ r,a.args.length ≤ A) ∧ r.length ≤ ts.length + sizes l
 | [],i,ts,r,h,_,hA => by
  rw [newS] at h
  simp only [Option.some.injEq] at h
  subst h
  exact ⟨hA,by simp [sizes]⟩
 | t :: l,i,ts,r,h,hs,hA => by
  rw [sizes]
  rcases newS_none h with ⟨_,h1⟩ | ⟨_,ts',hj,h1⟩
  ·obtain ⟨a1,a2⟩:=newS_args h1 (fun u hu => hs u (by simp [hu])) hA
   exact ⟨a1,by omega⟩
  ·have hc:=joinG_core hj
   obtain ⟨a1,a2⟩:=newS_args h1 (fun u hu => hs u (by simp [hu])) (core_args hc (add_args A t ts (hs t (by simp)) hA))
   have h3:=core_len hc
   have h4:=add_len t ts
   exact ⟨a1,by omega⟩
end Un
def AppCutG (s11 s12 : Value) (out : List Ty) (vo : Value) (n : Nat) (w7 wx : World) : Prop:=
 ∃ (e0 : Nat) (w1 : World) (D : Nat → Prop) (e cap pE pA pF : Nat),s11 = .slice (some ⟨e0,0,none⟩) n n ∧ s12 = .func (.func 81) #[] #[.pointer (some ⟨pF,0,none⟩)] ∧ w7.heap.size ≤ e0 ∧ w7.heap.size ≤ e ∧ (∀ N,ArrV wx N e0 (List.replicate n Un.zero)) ∧ AppI w1 D out e cap pE pA pF wx ∧ ¬ D e0 ∧ e0 ≠ e ∧ TysV wx (fun k => k ≠ e0 ∧ k ≠ e) out vo ∧ Fr [] w7 wx
theorem Fr.out1 {w a b : World} {e : Nat} (h : Fr [] w a) (k : Fr [e] a b) (he : w.heap.size ≤ e) : Fr [] w b:=((h.nil [e]).trans k).sub (fun x hx => by rw [List.mem_singleton] at hx;exact .inr (by omega))
set_option maxRecDepth 100000 in
set_option maxHeartbeats 3200000 in
theorem unifiedG_any (A fs f fe fa : Nat) (hA : A ≤ 90000) (hfA : f * A ≤ 800000) (N : Nat → Prop) (s : List Ty) (v : Value) (a b : Ty) (cs ds : List Value) (w : World) (hv : TysV w N s v) (hz : ∀ t ∈ s,size t ≤ A) (hsum : s.length + sizes s + size a + size b ≤ 100000) (h0 : 0 < s.length) (hl : s.length ≤ 900) (ha : TyV w N a cs) (hb : TyV w N b ds) (hsa : size a ≤ A) (hsb : size b ≤ A)
  (r : Except Int (List Ty)) (hr : Un.unifiedG fs f fe fa s a b = some r) :
  Calls Try.prog 41 #[v,.agg cs.toArray,.agg ds.toArray] w (UniP r w):=by
 obtain ⟨n,hn⟩ : ∃ n,n = s.length:=⟨_,rfl⟩
 obtain ⟨pa,ka,rfl,_⟩:=ha.shape
 obtain ⟨pb,kb,rfl,_⟩:=hb.shape
 obtain ⟨ps,kp,rfl⟩:=hv.shape
 have HV:=hid hv
 have HZ:=hid hz
 have HA:=hid ha
 have HB:=hid hb
 have HN:=hid hn
 obtain ⟨ts0,hts0,hr2⟩ : ∃ ts0,Un.newS fs f s.length 0 s (Un.fresh s.length) = some (some ts0) ∧ (match Un.joinG fs f s.length (Un.add (Un.add ts0 a).1 b).1 [((Un.add ts0 a).2,(Un.add (Un.add ts0 a).1 b).2)] with
  | none => none
  | some none => some (.error 8)
  | some (some ts) => match Un.sol fs s.length ts s.length with
   | none => none
   | some y => Un.tailG fe fa a y.2.2) = some r:=by
  unfold Un.unifiedG at hr
  split at hr
  ·rename_i ts0 h;exact ⟨ts0,h,hr⟩
  ·cases hr
 obtain ⟨hAL0,hLN0⟩:=Un.newS_args hts0 hz (Un.fresh_args s.length A)
 rw [Un.fresh_len] at hLN0
 have HAL0:=hid hAL0
 rw [← hn] at hr2 hl h0 HV hts0 hLN0 hsum ⊢
 have HR:=hid hr2
 have HTS0:=hid hts0
 clear hr hr2 hAL0 hts0
 obtain ⟨w1,hw1⟩ : ∃ w1,w1 = (w.alloc (.cells #[.int .i64 (kd a),.int .i64 (nm a),.slice pa (ar a).length ka] 24)).alloc (.cells #[.int .i64 (kd b),.int .i64 (nm b),.slice pb (ar b).length kb] 24):=⟨_,rfl⟩
 have HF1 : Hid (Fr [] w w1):=hid (by rw [hw1];exact ((Fr.refl _ _).alloc _).alloc _)
 have HBA1 : Hid (Blk w1 w.heap.size 24 #[.int .i64 (kd a),.int .i64 (nm a),.slice pa (ar a).length ka]):=hid (by rw [hw1];exact (Blk.new _ _ _).alloc _)
 have HBB1 : Hid (Blk w1 (w.heap.size + 1) 24 #[.int .i64 (kd b),.int .i64 (nm b),.slice pb (ar b).length kb]):=hid (by rw [hw1];exact Blk.new_at (by simp))
 clear hv hz ha hb hn
 go_enter Try.func41,Try.ntmps41
 go_wp2_with fail
 rw [← hw1]
 clear hw1
 have hnew:=newsolverG_any N s (.slice ps n kp) w1 (HV.out.keep0 HF1.out) A fs f (by omega) hfA ts0 (by rw [← HN.out];exact HTS0.out) HZ.out (by rw [← HN.out];omega) (by rw [← HN.out];omega)
 rw [← HN.out] at hnew
 refine hnew.mono ?_
 rintro e w2 ⟨rfl,hf2,tv,hS⟩
 obtain ⟨g,hg⟩ : ∃ g,g = w1.heap.size:=⟨_,rfl⟩
 simp only [← hg] at hS ⊢
 have HS:=hid hS
 have hgw : w.heap.size + 1 < g:=by rw [hg];exact HBB1.out.lt
 have HBA2:=hid (HBA1.out.keep hf2 (by simp))
 have HBB2:=hid (HBB1.out.keep hf2 (by simp))
 have HF2:=hid (HF1.out.trans hf2)
 have HA2 : Hid (TyV w2 (fun k => k < g) a [.int .i64 (kd a),.int .i64 (nm a),.slice pa (ar a).length ka]):=hid ((TyV.weak (N':=fun k => k < g) HA.out (fun k hk _ => by omega)).keep0 HF2.out)
 have HB2 : Hid (TyV w2 (fun k => k < g) b [.int .i64 (kd b),.int .i64 (nm b),.slice pb (ar b).length kb]):=hid ((TyV.weak (N':=fun k => k < g) HB.out (fun k hk _ => by omega)).keep0 HF2.out)
 have HV2 : Hid (TysV w2 (fun k => k < g) s (.slice ps n kp)):=hid ((TysV.weak (N':=fun k => k < g) HV.out (fun k hk _ => by omega)).keep0 HF2.out)
 clear hf2 hS hg hnew
 have hown : ∀ k,k < g → k ≠ g ∧ tv.ownBlock ≠ some k:=fun k hk => ⟨by omega,fun e => by have:=(HS.out.l.own k e).1;omega⟩
 have HOWN:=hid hown
 obtain ⟨r1,hr1⟩ : ∃ r1,r1 = Un.add ts0 a:=⟨_,rfl⟩
 obtain ⟨r2,hr2⟩ : ∃ r2,r2 = Un.add r1.1 b:=⟨_,rfl⟩
 have hlen1 : r1.1.length ≤ n + sizes s + size a:=by
  have:=Un.add_len a ts0
  rw [← hr1] at this
  omega
 have hR:=HR.out
 rw [← hr1,← hr2] at hR
 have HAL : Hid (∀ t ∈ r2.1,t.args.length ≤ A):=hid (by rw [hr2];exact Un.add_args A b _ hsb (by rw [hr1];exact Un.add_args A a _ hsa HAL0.out))
 ·skip
  have HA3 : Hid (∀ wx,Fr [] w2 wx → Calls Try.prog 68 #[.pointer (some ⟨g,0,none⟩),.agg #[.int .i64 (kd a),.int .i64 (nm a),.slice pa (ar a).length ka]] wx (AddP (fun _ => True) g n tv r1 wx)):=hid (fun wx hf => by
   rw [hr1]
   exact add_any g n (size a) a (Nat.le_refl _) _ _ tv _ wx (HS.out.keep0 hf) (fun _ _ => trivial) (fun _ _ => trivial) (HA2.out.keep0 hf) (by omega))
  have HB3 : Hid (∀ wx tv1,SolV wx (fun _ => True) g n r1.1 tv1 → SolFr g tv tv1 w2 wx → Calls Try.prog 68 #[.pointer (some ⟨g,0,none⟩),.agg #[.int .i64 (kd b),.int .i64 (nm b),.slice pb (ar b).length kb]] wx (AddP (fun _ => True) g n tv1 r2 wx)):=hid (fun wx tv1 h1 h2 => by
   rw [hr2]
   exact add_any g n (size b) b (Nat.le_refl _) _ _ tv1 _ wx h1 (fun _ _ => trivial) (fun _ _ => trivial) (h2.inn HB2.out (fun k _ hk => HOWN.out k hk)) (by omega))
  have HBX : Hid (∀ wx tv1,SolFr g tv tv1 w2 wx → Blk wx w.heap.size 24 #[.int .i64 (kd a),.int .i64 (nm a),.slice pa (ar a).length ka] ∧ Blk wx (w.heap.size + 1) 24 #[.int .i64 (kd b),.int .i64 (nm b),.slice pb (ar b).length kb]):=hid (fun wx tv1 h => by
   have k1:=HOWN.out w.heap.size (by omega)
   have k2:=HOWN.out (w.heap.size + 1) (by omega)
   exact ⟨(h.blk HBA2.out k1.1 k1.2).1,(h.blk HBB2.out k2.1 k2.2).1⟩)
  have HD : Hid (Fr [] w2 w2.drew):=hid ((Fr.refl [] w2).drew)
  have d0 : w2.drew.cell? ⟨w.heap.size,0,none⟩ = some (.int .i64 (kd a)):=HBA2.out.cell 0
  have d1 : w2.drew.cell? ⟨w.heap.size,1,none⟩ = some (.int .i64 (nm a)):=HBA2.out.cell 1
  have d2 : w2.drew.cell? ⟨w.heap.size,2,none⟩ = some (.slice pa (ar a).length ka):=HBA2.out.cell 2
  have d3 : w2.drew.cell? ⟨w.heap.size + 1,0,none⟩ = some (.int .i64 (kd b)):=HBB2.out.cell 0
  have d4 : w2.drew.cell? ⟨w.heap.size + 1,1,none⟩ = some (.int .i64 (nm b)):=HBB2.out.cell 1
  have d5 : w2.drew.cell? ⟨w.heap.size + 1,2,none⟩ = some (.slice pb (ar b).length kb):=HBB2.out.cell 2
  have l0 : w.heap.size < w2.drew.heap.size:=HBA2.out.lt
  have l1 : w.heap.size + 1 < w2.drew.heap.size:=HBB2.out.lt
  cases hj : Un.joinG fs f n r2.1 [(r1.2,r2.2)] with
  | none => rw [hj] at hR;cases hR
  | some jr =>
   rw [hj] at hR
   have HJ : Hid (∀ wx tv2,SolV wx (fun _ => True) g n r2.1 tv2 → Calls Try.prog 67 #[.pointer (some ⟨g,0,none⟩),.int .i64 r1.2,.int .i64 r2.2] wx (JoinP (fun _ => True) g n tv2 jr wx)):=hid (fun wx tv2 h => joinG_any g n _ A fs f r2.1 r1.2 r2.2 jr tv2 wx h (fun _ _ => trivial) (by omega) HAL.out hfA hj)
   clear hr1 hr2 hlen1 hj hown
   cases jr with
   | none =>
    have HR8 : Hid (r = .error 8):=hid (by simpa using hR.symm)
    clear hR
    have HFIN : Hid (∀ wx tvx,SolFr g tv tvx w2 wx → Fr [] w wx):=hid (fun wx tvx h => ((HF2.out.nil (g :: tv.ownBlock.toList)).trans (h.fr (X:=g :: tv.ownBlock.toList) (by simp) (fun k hk => by simp [hk]))).sub (fun k hk => by
     rcases List.mem_cons.1 hk with rfl | hk
     ·exact .inr (by omega)
     ·have h1 : tv.ownBlock = some k:=by simpa using hk
      have:=(HS.out.l.own k h1).1
      exact .inr (by omega)))
    go_wp2_with fail
    refine wp_region_any (by kernel_rfl) ?_
    change wpAny _ _ _ _ _ _ _ (World.drew _)
    repeat' (first | (refine wpAny_take (i:=0) (v:=.pointer (some ⟨g,0,none⟩)) rfl ?_ ?_ ?_ (fun _ _ _ h => h) (Or.inl ⟨by rfl,?_⟩) ?_;(focus (decide +kernel));(focus (decide +kernel));(focus (decide +kernel));(focus (intro w;go_simp;try with_reducible rfl))) | (refine wpAny_take (i:=1) (v:=.pointer (some ⟨g,0,none⟩)) rfl ?_ ?_ ?_ (fun _ _ _ h => h) (Or.inl ⟨by rfl,?_⟩) ?_;(focus (decide +kernel));(focus (decide +kernel));(focus (decide +kernel));(focus (intro w;go_simp;try with_reducible rfl))) | (refine wpAny_take (i:=4) (v:=.pointer (some ⟨g,0,none⟩)) rfl ?_ ?_ ?_ (fun _ _ _ h => h) (Or.inl ⟨by rfl,?_⟩) ?_;(focus (decide +kernel));(focus (decide +kernel));(focus (decide +kernel));(focus (intro w;go_simp;try with_reducible rfl))) | (refine wpAny_ready (rs:=[7]) ?_ (by simp) ?_;(focus (decide +kernel));refine AllReady.cons rfl (fun K hK => ?_) AllReady.nil;go_simp;(go_at_call 67;(with_reducible refine (HJ.out _ _ HS4.out).mono ?_);rintro e w5 ⟨rfl,hF5⟩;have HF5:=HF4.out.trans hF5;rw [HR8.out];exact ⟨rfl,HFIN.out _ _ HF5,rfl⟩)) | (refine wpAny_ready (rs:=[6]) ?_ (by simp) ?_;(focus (decide +kernel));refine AllReady.cons rfl (fun K hK => ?_) AllReady.nil;go_simp;(go_at_call 68;(with_reducible refine (HB3.out _ _ HS3.out HF3.out).mono ?_);rintro e w4 ⟨rfl,tv2,hS2,hF2⟩;have HS4:=hid hS2;have HF4:=hid (HF3.out.trans hF2);clear hS2 hF2;refine hK _ _ ?_;clear hK K)) | (refine wpAny_ready (rs:=[3]) ?_ (by simp) ?_;(focus (decide +kernel));refine AllReady.cons rfl (fun K hK => ?_) AllReady.nil;go_simp;(go_at_call 68;(with_reducible refine (HA3.out _ HD.out).mono ?_);rintro e w3 ⟨rfl,tv1,hS1,hF1⟩;have HS3:=hid hS1;have HF3:=hid ((SolFr.of_fr (b:=g) (tv:=tv) HD.out).trans hF1);obtain ⟨b3,b4⟩:=HBX.out _ _ HF3.out;have x0:=b4.cell 0;have x1:=b4.cell 1;have x2:=b4.cell 2;have x3:=b4.lt;clear hS1 hF1 b3 b4;refine hK _ _ ?_;clear hK K)) | (refine wpAny_ready (rs:=[2]) ?_ (by simp) ?_;(focus (decide +kernel));refine AllReady.cons rfl (fun K hK => ?_) AllReady.nil;go_simp;(refine hK _ _ ?_;clear hK K)) | (refine wpAny_ready (rs:=[5]) ?_ (by simp) ?_;(focus (decide +kernel));refine AllReady.cons rfl (fun K hK => ?_) AllReady.nil;go_simp;(refine hK _ _ ?_;clear hK K)) | (refine wpAny_ready (rs:=[2,5]) ?_ (by simp) ?_;(focus (decide +kernel));refine AllReady.cons rfl (fun K hK => ?_) (AllReady.cons rfl (fun K hK => ?_) AllReady.nil) <;> (go_simp;(refine hK _ _ ?_;clear hK K))) | (refine wpAny_ready (rs:=[3,5]) ?_ (by simp) ?_;(focus (decide +kernel));refine AllReady.cons rfl (fun K hK => ?_) (AllReady.cons rfl (fun K hK => ?_) AllReady.nil) <;> (go_simp;(first | (go_at_call 68;(with_reducible refine (HA3.out _ HD.out).mono ?_);rintro e w3 ⟨rfl,tv1,hS1,hF1⟩;have HS3:=hid hS1;have HF3:=hid ((SolFr.of_fr (b:=g) (tv:=tv) HD.out).trans hF1);obtain ⟨b3,b4⟩:=HBX.out _ _ HF3.out;have x0:=b4.cell 0;have x1:=b4.cell 1;have x2:=b4.cell 2;have x3:=b4.lt;clear hS1 hF1 b3 b4;refine hK _ _ ?_;clear hK K) | (refine hK _ _ ?_;clear hK K)))))
   | some ts =>
    simp only at hR
    cases hso : Un.sol fs n ts n with
    | none => rw [hso] at hR;cases hR
    | some y =>
     rw [hso] at hR
     have HTL : Hid (Un.tailG fe fa a y.2.2 = some r):=hid hR
     have HSO:=hid hso
     clear hR hso
     go_wp2_with fail
     go_cut [7] (fun s7 wx => s7 = .pointer (some ⟨g,0,none⟩) ∧ Joined g n ts tv w2 wx)
     case first =>
      go_region_law (first | (go_simp;go_at_call 68;(with_reducible refine (HA3.out _ HD.out).mono ?_);rintro e w3 ⟨rfl,tv1,hS1,hF1⟩;have HS3:=hid hS1;have HF3:=hid ((SolFr.of_fr (b:=g) (tv:=tv) HD.out).trans hF1);obtain ⟨b3,b4⟩:=HBX.out _ _ HF3.out;have x0:=b4.cell 0;have x1:=b4.cell 1;have x2:=b4.cell 2;have x3:=b4.lt;clear hS1 hF1 b3 b4) | (go_simp;go_at_call 68;(with_reducible refine (HB3.out _ _ HS3.out HF3.out).mono ?_);rintro e w4 ⟨rfl,tv2,hS2,hF2⟩;have HS4:=hid hS2;have HF4:=hid (HF3.out.trans hF2);clear hS2 hF2) | (go_simp;go_at_call 67;(with_reducible refine (HJ.out _ _ HS4.out).mono ?_);rintro e w5 ⟨rfl,hS5,hF5⟩;have HS5:=hid hS5;have HF5:=hid (HF4.out.trans hF5);clear hS5 hF5))
      all_goals (try go_wp2_with fail)
      all_goals (go_meet;exact ⟨rfl,_,HS5.out,HF5.out⟩)
     case rest =>
      obtain ⟨rfl,tv2,hS5,hF5⟩:=hcut
      obtain ⟨w5,hw5⟩ : ∃ v : World,v = wc:=⟨_,rfl⟩
      subst hw5
      have HS5:=hid hS5
      have HF5:=hid hF5
      clear hS5 hF5 d0 d1 d2 d3 d4 d5 l0 l1 HA3 HB3 HJ HAL HD
      go_wp2_with fail
      refine (solution_any g n _ fs ts y.1 y.2.1 y.2.2 tv2 w5 HS5.out (by omega) HSO.out).mono ?_
      rintro e w6 ⟨vo,rfl,hvo,hF6⟩
      have hlo : y.2.2.length = n:=(Un.sol_len HSO.out).2
      obtain ⟨out,hout⟩ : ∃ out,out = y.2.2:=⟨_,rfl⟩
      rw [← hout] at hlo HTL hvo
      have hF56:=HF5.out.trans hF6
      have HBA6:=hid (HBX.out _ _ hF56).1
      have hfr6 : Fr [] w w6:=((HF2.out.nil (g :: tv.ownBlock.toList)).trans (hF56.fr (X:=g :: tv.ownBlock.toList) (by simp) (fun k hk => by simp [hk]))).sub (fun k hk => by
       rcases List.mem_cons.1 hk with rfl | hk
       ·exact .inr (by omega)
       ·have h1 : tv.ownBlock = some k:=by simpa using hk
        have:=(HS.out.l.own k h1).1
        exact .inr (by omega))
      have HF6:=hid hfr6
      have HT6:=hid ((TyV.weak (N':=fun _ => True) HA.out (fun _ _ _ => trivial)).keep0 hfr6)
      have HV6:=hid hvo
      rcases hvo.cases with ⟨h1,_⟩ | ⟨_,bo,oo,co,heq,hoc,hom,hat⟩
      ·rw [h1] at hlo;simp at hlo;omega
      rw [hlo] at heq hoc
      subst heq
      have HLO:=hid hlo
      clear hlo
      unfold maxLen at hom
      have HAT:=hid hat
      clear hF6 hF56 hfr6 hvo hat HSO HS5 HF5 HBX HS HOWN HBA2 HBB2 HA2 HB2 HV2 HF2 hout
      obtain ⟨d,hd,htl⟩ : ∃ d,Un.depthsOf (out ++ [a]) = some d ∧ (if d.2 = false then some (.error 8) else if (d.1.any fun n => decide (8 < n)) = true then some (.error 2) else (Un.appsG out fe fa out).map .ok) = some r:=by
       have h1:=HTL.out
       unfold Un.tailG at h1
       split at h1
       ·split at h1
        ·cases h1
        ·rename_i d hd;exact ⟨d,hd,h1⟩
       ·cases h1
      have hok : ∀ t ∈ out ++ [a],size t ≤ 90000 ∧ vin (out.length + 1 : Nat) t = true:=by
       have h1:=HTL.out
       unfold Un.tailG at h1
       split at h1
       ·rename_i h2
        intro t ht
        have:=(List.all_eq_true.1 h2) t ht
        simpa using this
       ·cases h1
      have HOK:=hid hok
      have HDP : Hid (∀ v wx,TysV wx (fun _ => True) (out ++ [a]) v → Calls Try.prog 62 #[v] wx (DepthsP d (out ++ [a]).length wx)):=hid (fun v wx hv => depthsof_any _ _ v wx hv (by rw [List.length_append,List.length_singleton,HLO.out];omega) (fun t ht => (hok t ht).1) (fun t ht => by rw [List.length_append,List.length_singleton];exact (hok t ht).2) d hd)
      have HTL2:=hid htl
      clear hok hd htl HTL
      have HD6 : Hid (Fr [] w6 w6.drew):=hid ((Fr.refl [] w6).drew)
      have HE6 : Hid (Fr [] w6 (w6.alloc (.cells #[.int .i64 (kd a),.int .i64 (nm a),.slice pa (ar a).length ka] 24)).drew):=hid (((Fr.refl [] w6).alloc _).drew)
      have HATE:=hid (HAT.out.keep0 HE6.out)
      have HTE:=hid (HT6.out.keep0 HE6.out)
      have HCE : Hid (∀ j u,[Value.int .i64 (kd a),.int .i64 (nm a),.slice pa (ar a).length ka][j]? = some u → (w6.alloc (.cells #[.int .i64 (kd a),.int .i64 (nm a),.slice pa (ar a).length ka] 24)).drew.cell? ((⟨w6.heap.size,0,none⟩ : Addr).add j) = some u):=hid (fun j u hj => by
       rw [addr_add,Nat.zero_add]
       have h1:=(Blk.new w6 24 #[.int .i64 (kd a),.int .i64 (nm a),.slice pa (ar a).length ka]).cell j
       exact h1.trans (by simpa using hj))
      have d0 : w6.drew.cell? ⟨w.heap.size,0,none⟩ = some (.int .i64 (kd a)):=HBA6.out.cell 0
      have d1 : w6.drew.cell? ⟨w.heap.size,1,none⟩ = some (.int .i64 (nm a)):=HBA6.out.cell 1
      have d2 : w6.drew.cell? ⟨w.heap.size,2,none⟩ = some (.slice pa (ar a).length ka):=HBA6.out.cell 2
      have l0 : w.heap.size < w6.drew.heap.size:=HBA6.out.lt
      go_wp2_with fail
      go_cut [8,9,10] (fun s8 s9 s10 wx => s8 = .slice (some ⟨bo,oo,none⟩) n co ∧ s10 = .bool d.2 ∧ DepCut s9 d.1 w6 wx)
      case first =>
       go_region_law (first | (go_simp;go_at_call 70;refine (clip_any (some ⟨bo,oo,none⟩) n co _ hoc (by unfold maxLen;exact hom)).mono ?_;rintro e wq ⟨rfl,rfl⟩) | (refine step_append_full _ (by rfl) _ _ (by rfl) (fun _ => True) out a bo oo (by rw [HLO.out];rfl) HATE.out (by rw [HLO.out];omega) ⟨w6.heap.size,0,none⟩ 1 _ _ _ (by rfl) HCE.out HTE.out ?_;intro p8 k8 w8 hv8 hf8;have HV8:=hid hv8;have HF8:=hid (HE6.out.trans hf8);clear hv8 hf8) | (go_simp;go_at_call 62;refine (HDP.out _ _ HV8.out).mono ?_;rintro e w9 ⟨g9,rfl,hf9,hl9,hg9,hI9⟩;have HF9:=hid (HF8.out.trans hf9);have HI9:=hid hI9;have HL9:=hid hl9;clear hf9 hl9 hg9 hI9))
       all_goals (try go_wp2_with fail)
       all_goals (go_meet;exact ⟨rfl,rfl,HF9.out,by have h1:=HI9.out.intsV (by rw [HL9.out,List.length_append,List.length_singleton,HLO.out];omega);rw [HL9.out,List.length_append,List.length_singleton] at h1;exact h1⟩)
      case rest =>
       obtain ⟨rfl,rfl,hf7,hi7⟩:=hcut
       obtain ⟨w7,hw7⟩ : ∃ v : World,v = wc:=⟨_,rfl⟩
       subst hw7
       have HF7:=hid (HF6.out.trans hf7)
       have HI7:=hid hi7
       have HV7:=hid (HV6.out.keep0 hf7)
       clear hf7 hi7 d0 d1 d2 l0 HDP HD6 HE6 HATE HTE HCE HAT HT6 HBA6 HV6
       obtain ⟨dl,df⟩:=d
       cases df with
       | false =>
        have HR8 : Hid (r = .error 8):=hid (by have h1:=HTL2.out;rw [if_pos rfl] at h1;exact (Option.some.inj h1).symm)
        go_wp2_with fail
        refine (refuse_yes 8 _).mono ?_
        rintro e w8 ⟨rfl,rfl⟩
        unfold failE
        go_wp2_with fail
        rw [HR8.out]
        exact ⟨rfl,HF7.out,rfl⟩
       | true =>
        have htl:=HTL2.out
        simp only [Bool.true_eq_false,if_false] at htl
        have HTL3:=hid htl
        clear htl HTL2
        go_wp2_with fail
        refine (refuse_no 8 _).mono ?_
        rintro e w8 ⟨rfl,rfl⟩
        go_wp2_with fail
        refine (containsdeep_any dl _ _ _ HI7.out).mono ?_
        rintro e w8 ⟨rfl,hf8⟩
        have HF8:=hid (HF7.out.trans hf8)
        have HV8:=hid (HV7.out.keep0 hf8)
        clear hf8
        cases hdp : (dl.any fun n => decide (8 < n)) with
        | true =>
         have HR2 : Hid (r = .error 2):=hid (by have h1:=HTL3.out;rw [hdp] at h1;simpa using h1.symm)
         clear hdp
         go_wp2_with fail
         refine (refuse_yes 2 _).mono ?_
         rintro e w9 ⟨rfl,rfl⟩
         unfold failE
         go_wp2_with fail
         rw [HR2.out]
         exact ⟨rfl,HF8.out,rfl⟩
        | false =>
         obtain ⟨rs,hrs,hrr⟩ : ∃ rs,Un.appsG out fe fa out = some rs ∧ r = .ok rs:=by
          have h1:=HTL3.out
          rw [hdp] at h1
          simp only [Bool.false_eq_true,if_false] at h1
          obtain ⟨rs,h2,h3⟩:=Option.map_eq_some_iff.1 h1
          exact ⟨rs,h2,h3.symm⟩
         have HRS:=hid hrs
         have HRR:=hid hrr
         clear hdp hrs hrr HTL3 HI7
         go_wp2_with fail
         refine (refuse_no 2 _).mono ?_
         rintro e w9 ⟨rfl,rfl⟩
         obtain ⟨w9,hw9⟩ : ∃ v : World,v = w8:=⟨_,rfl⟩
         subst hw9
         obtain ⟨j0,hj0,jz0,jz1,jz2⟩:=info_parts info_ty
         have hms : ∀ w1 : World,(Instr.makeSlice 22 (.int .i64 (n : Int)) (.int .i64 (n : Int))).run Try.prog w1 = .ok (.slice (some ⟨w1.heap.size,0,none⟩) n n) (w1.alloc (.cells (madeCells #[.int .i64 0,.int .i64 0,.slice none 0 0] (n * 3)) 24)):=fun w1 => by
          have:=run_makeSlice w1 22 24 j0 _ Try.underlying22 hj0 jz0 .i64 .i64 n n (by omega) (Int.le_refl _) (by rw [jz1];simp;omega) (by rw [jz2];omega) (by omega)
          rw [jz1] at this
          simpa [Value.cells] using this
         clear hj0 jz0 jz1 jz2
         obtain ⟨wa,hwa⟩ : ∃ wa,wa = w9.alloc (.cells (madeCells #[.int .i64 0,.int .i64 0,.slice none 0 0] (n * 3)) 24):=⟨_,rfl⟩
         have HFA : Hid (Fr [] w9 wa.drew):=hid (by rw [hwa];exact ((Fr.refl [] _).alloc _).drew)
         have HAA : Hid (∀ N,ArrV wa.drew N w9.heap.size (List.replicate n Un.zero)):=hid (fun N => by rw [hwa];exact (ArrV.made w9 N n).keep0 ((Fr.refl [] _).drew))
         have HVA : Hid (TysV wa.drew (fun k => k ≠ w9.heap.size) out (.slice (some ⟨bo,oo,none⟩) n co)):=hid ((TysV.weak (N':=fun k => k ≠ w9.heap.size) HV8.out (fun k hk _ => by omega)).keep0 HFA.out)
         have HVB : Hid (TysV w9.drew (fun _ => True) out (.slice (some ⟨bo,oo,none⟩) n co)):=hid (HV8.out.keep0 ((Fr.refl [] _).drew))
         have HFB : Hid (Fr [] w9 w9.drew):=hid ((Fr.refl [] _).drew)
         have HWA:=hid hwa
         clear hwa
         go_wp2_with fail
         go_cut [8,11,12] (fun s8 s11 s12 wx => s8 = .slice (some ⟨bo,oo,none⟩) n co ∧ AppCutG s11 s12 out (.slice (some ⟨bo,oo,none⟩) n co) n w9 wx)
         case first =>
          go_region_law (first | (go_simp;go_at_call 55;(first | (rw [← HWA.out];(with_reducible refine (applicationG_any (fun k => k ≠ w9.heap.size) out _ _ HVA.out (by rw [HLO.out];omega) (by rw [HLO.out];omega)).mono ?_)) | (with_reducible refine (applicationG_any (fun _ => True) out _ _ HVB.out (by rw [HLO.out];omega) (by rw [HLO.out];omega)).mono ?_));rintro en wb ⟨e,cap,pE,pA,pF,rfl,hge,hAp,hfb⟩;have HAP:=hid hAp;have HGE:=hid hge;have HFP:=hid hfb;clear hAp hge hfb))
          all_goals (try go_wp2_with fail)
          ·go_meet
           have hsz : wa.drew.heap.size = w9.heap.size + 1:=by rw [HWA.out];simp [World.drew]
           have hge:=HGE.out
           exact ⟨rfl,w9.heap.size,wb,_,e,cap,pE,pA,pF,rfl,rfl,Nat.le_refl _,by omega,fun N => (HAA.out N).keep0 HFP.out,HAP.out,by rintro (⟨_,h⟩ | h | h | h);exact h rfl;all_goals omega,by omega,TysV.weak ((TysV.weak (N':=fun k => k < wa.drew.heap.size ∧ k ≠ w9.heap.size) HVA.out (fun k hk h => ⟨hk,h⟩)).keep0 HFP.out) (fun k _ h => ⟨h.2,by omega⟩),HFA.out.trans HFP.out⟩
          ·go_meet
           have hsz : w9.drew.heap.size = w9.heap.size:=rfl
           have hle:=HFP.out.size
           have hge:=HGE.out
           have hel:=HAP.out.lt
           exact ⟨rfl,wb.heap.size,wb,_,e,cap,pE,pA,pF,rfl,rfl,by omega,by omega,fun N => ArrV.made wb N n,HAP.out.fr ((Fr.refl [] wb).alloc _),fun h => by have:=HAP.out.dl _ h;omega,by omega,TysV.weak (((TysV.weak (N':=fun k => k < w9.drew.heap.size) HVB.out (fun k hk _ => hk)).keep0 HFP.out).keep0 ((Fr.refl [] wb).alloc _)) (fun k _ h => ⟨by omega,by omega⟩),(HFB.out.trans HFP.out).alloc _⟩
         case rest =>
          obtain ⟨rfl,e0,wq,D,e,cap,pE,pA,pF,rfl,rfl,he0,hee,hArr,hAp,hD0,hne,hvo,hfc⟩:=hcut
          obtain ⟨w10,hw10⟩ : ∃ v : World,v = wc:=⟨_,rfl⟩
          subst hw10
          have he1 : w.heap.size ≤ e0:=Nat.le_trans HF8.out.size he0
          have he2 : w.heap.size ≤ e:=Nat.le_trans HF8.out.size hee
          have HAR:=hid (hArr (fun k => (k ≠ e0 ∧ k ≠ e) ∧ w.heap.size ≤ k))
          have HAPP:=hid hAp
          have HVO:=hid hvo
          have HD0:=hid hD0
          have HNE:=hid hne
          have HEQ:=hid hAp.lt
          have HFC:=hid (HF8.out.trans hfc)
          have hrl : rs.length = n:=(Un.appsG_len HRS.out).trans HLO.out
          have HRL:=hid hrl
          clear hArr hAp hvo hfc HAA HVA HVB HFA HFB HWA HV8 hrl hD0 hne
          go_wp2_with fail
          go_loopw [49] (fun x wr => ∃ i : Nat,x = .int .i64 i ∧ i ≤ n ∧ Hid (ArrV wr (fun k => (k ≠ e0 ∧ k ≠ e) ∧ w.heap.size ≤ k) e0 (rs.take i ++ List.replicate (n - i) Un.zero)) ∧ Hid (AppI wq D out e cap pE pA pF wr) ∧ Hid (TysV wr (fun k => k ≠ e0 ∧ k ≠ e) out (.slice (some ⟨bo,oo,none⟩) n co)) ∧ Hid (Fr [] w wr)) (fun x _ => n - (RowKit.intOf x).toNat)
          case atStart => exact ⟨0,rfl,Nat.zero_le _,by simpa using HAR,HAPP,HVO,HFC⟩
          case round =>
           obtain ⟨i,rfl,hi,HAR1,HAPP1,HVO1,HFC1⟩:=hrel
           clear HAR HAPP HVO HFC
           by_cases hlt : i < n
           ·have hd2 : decide ((i : Int) < (n : Int)) = true:=by simp;omega
            have hd3 : decide (i < n) = true:=by simpa using hlt
            have hio : i < out.length:=by have:=HLO.out;omega
            obtain ⟨x,hx⟩ : ∃ x,x = out[i]:=⟨_,rfl⟩
            have hxi : out[i]? = some x:=by rw [hx];exact List.getElem?_eq_getElem hio
            obtain ⟨rx,hrx,hri⟩:=Un.appsG_get HRS.out hxi
            obtain ⟨p1,c1,k1,hb,g0,g1,g2⟩ : ∃ p1 c1,TyV wr (fun k => k ≠ e) x [.int .i64 (kd x),.int .i64 (nm x),.slice p1 (ar x).length c1] ∧ bo < wr.heap.size ∧ wr.cell? ⟨bo,oo + i * 3,none⟩ = some (.int .i64 (kd x)) ∧ wr.cell? ⟨bo,oo + i * 3 + 1,none⟩ = some (.int .i64 (nm x)) ∧ wr.cell? ⟨bo,oo + i * 3 + 2,none⟩ = some (.slice p1 (ar x).length c1):=by
             rcases HVO1.out.cases with ⟨h1,_⟩ | ⟨_,b1,o1,c1,heq,_,_,hat⟩
             ·rw [h1] at hio;simp at hio
             ·simp only [Value.slice.injEq,Option.some.injEq,Addr.mk.injEq,and_true] at heq
              obtain ⟨⟨rfl,rfl⟩,_,_⟩:=heq
              obtain ⟨p1,c1,k1,hb,g0,g1,g2⟩:=hat.el (Fr.refl [] wr) (by simp) hxi
              exact ⟨p1,c1,TyV.weak k1 (fun _ _ h => h.2),hb,g0,g1,g2⟩
            have K1:=hid k1
            have HRX:=hid hrx
            have HRI:=hid hri
            have hsx : size x ≤ 100000:=by have:=(HOK.out x (List.mem_append_left _ (List.mem_of_getElem? hxi))).1;omega
            have HSX:=hid hsx
            have hE : ∀ y ∈ out,size y ≤ 100000:=fun y hy => by have:=(HOK.out y (List.mem_append_left _ hy)).1;omega
            have HE:=hid hE
            clear k1 hx hxi hrx hri hio hsx hE
            go_wp2_with fail
            obtain ⟨w11,hw11⟩ : ∃ w11,w11 = wr.alloc (.cells #[.int .i64 (kd x),.int .i64 (nm x),.slice p1 (ar x).length c1] 24):=⟨_,rfl⟩
            have hf11 : Fr [] wr w11:=by rw [hw11];exact (Fr.refl _ _).alloc _
            rw [← hw11]
            clear hw11
            refine (applyG_any D out e cap pE pA pF wq HEQ.out fe HE.out fa x rx HRX.out HSX.out _ w11 (HAPP1.out.fr hf11) (K1.out.keep0 hf11)).mono ?_
            rintro en w12 ⟨hf12,hi12,ds,rfl,hty⟩
            obtain ⟨p2,c2,rfl,_⟩:=hty.shape
            have hf:=(hf11.nil [e]).trans hf12
            have hez : e0 < w11.heap.size:=(HAR1.out.keep0 hf11).lt
            have heq:=HEQ.out
            have hqz:=HAPP1.out.sz
            have hfz:=hf11.size
            have hwz : w.heap.size ≤ w11.heap.size:=Nat.le_trans HFC1.out.size hf11.size
            have HT2:=hid (TyV.weak (N':=fun k => (k ≠ e0 ∧ k ≠ e) ∧ w.heap.size ≤ k) hty (fun k hk h => by (have h3 : w11.heap.size ≤ k:=h);omega))
            have HA2:=hid (HAR1.out.keep hf (by simpa using HNE.out) (fun k hk h => by rw [List.mem_singleton] at hk;exact h.1.2 hk))
            have HP2:=hid hi12
            have HVO2:=hid (HVO1.out.keep hf (fun k hk h => by rw [List.mem_singleton] at hk;exact h.2 hk))
            have HFC2:=hid (HFC1.out.out1 hf he2)
            have hil : i < (rs.take i ++ List.replicate (n - i) Un.zero).length:=by have:=HRL.out;simp;omega
            obtain ⟨z5,hz5⟩ : ∃ z,(rs.take i ++ List.replicate (n - i) Un.zero)[i]? = some z:=⟨_,List.getElem?_eq_getElem hil⟩
            obtain ⟨p5,c5,rx5,r0,r1,r2,r3⟩:=HA2.out.el hz5
            have r4:=HA2.out.lt
            have t0:=r3 (i * 3)
            have t1:=r3 (i * 3 + 1)
            have t2:=r3 (i * 3 + 2)
            have HIL:=hid hil
            clear r3 rx5 hz5 hty hf hf11 hf12 hi12 g0 g1 g2 hb hil heq hqz hfz
            go_wp2_with fail
            go_roundw
            case rel =>
             have hf3:=Fr.cells3 w12 e0 (i * 3) (.int .i64 (kd rx)) (.int .i64 (nm rx)) (.slice p2 (ar rx).length c2)
             have h1:=HA2.out.set HIL.out HT2.out (fun h => h.1.1 rfl)
             rw [Un.upto_set HRL.out HRI.out] at h1
             exact ⟨i + 1,by go_num,by omega,hid h1,hid (HP2.out.beside hf3 (fun k hk => by rw [List.mem_singleton] at hk;subst hk;exact ⟨HD0.out,HNE.out⟩)),hid (HVO2.out.keep hf3 (fun k hk h => by rw [List.mem_singleton] at hk;exact h.1 hk)),hid (HFC2.out.out1 hf3 he1)⟩
            case measure => simp [RowKit.intOf];omega
           ·have hd2 : decide ((i : Int) < (n : Int)) = false:=by simp;omega
            have hd3 : decide (i < n) = false:=by simpa using hlt
            obtain rfl : i = n:=by omega
            go_wp2_with fail
            go_ret
            rw [HRR.out]
            have h1:=HAR1.out
            rw [Nat.sub_self,List.replicate_zero,List.append_nil,List.take_of_length_le (by rw [HRL.out];exact Nat.le_refl _)] at h1
            have h2:=h1.tysV (N':=fun k => w.heap.size ≤ k) (by rw [HRL.out];omega) (fun _ _ h => h.2) he1
            rw [HRL.out] at h2
            exact ⟨HFC1.out,_,rfl,h2⟩
end Go.Proofs.Ytcdlnhfgehhkcaa
