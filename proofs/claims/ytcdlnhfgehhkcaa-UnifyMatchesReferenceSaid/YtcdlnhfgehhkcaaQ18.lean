/- part of the proof -/
import Derived.Test.YtcdlnhfgehhkcaaQ17
import Derived.Test.YtcdlnhfgehhkcaaQ16
set_option linter.unusedVariables false
set_option linter.unusedSimpArgs false
set_option linter.unusedSectionVars false
namespace Go.Proofs.Ytcdlnhfgehhkcaa
open Go.RowKit Go.Lib
open Un (kd nm ar size sizes element)
def Un.unify (n : Nat) (a b : Ty) : Option (Except Int (List Ty)):=
 if (element n a && element n b) = true then Un.unified n a b else some (.error 1)
def UnifyP (r : Except Int (List Ty)) (w : World) (e : Ending) (w' : World) : Prop:=Fr [] w w' ∧ match r with
 | .error c => e = .returned (.tuple #[.slice none 0 0,.int .i64 c])
 | .ok rs => ∃ v,e = .returned (.tuple #[v,.int .i64 0]) ∧ TysV w' (fun k => w.heap.size ≤ k) rs v
theorem run_makeUnify1 (w : World) (a b : Value) : (Instr.makeFunc (.func 37) #[] #[a,b]).run Try.prog w = .ok (.func (.func 37) #[] #[a,b]) w:=rfl
set_option maxRecDepth 100000 in
theorem door_panic (T : Array Value) (p q : Nat) (wx : World) (c : Int) (x y : Value) (R : Ending → World → Prop) (h6 : T[6]? = some (.pointer (some ⟨p,0,none⟩))) (h7 : T[7]? = some (.pointer (some ⟨q,0,none⟩))) (hp : Blk wx p 22 #[x]) (hq : Blk wx q 36 #[y]) (hne : p ≠ q)
  (hR : R (.returned (.tuple #[.slice none 0 0,.int .i64 c])) ((wx.setCell ⟨p,0,none⟩ (.slice none 0 0)).setCell ⟨q,0,none⟩ (.int .i64 c))) :
  bodyPostD Try.prog Try.f11 R (Exit.panic [{ v:=.iface 64 (.int .i64 c),recovered:=false }]) { tmps:=T,defers:=[{ target:=Target.fn (Fn.func 37) #[.pointer (some ⟨p,0,none⟩),.pointer (some ⟨q,0,none⟩)],args:=#[] }] } wx:=by
 refine leaves_cons (f:=37) (args:=#[.pointer (some ⟨p,0,none⟩),.pointer (some ⟨q,0,none⟩)]) (by simp) (by simp [go_sem]) ?_
 refine (unify1_fail p q c [] wx x y (hp.cell 0) (hp.frozen 0) (hq.cell 0) (hq.frozen 0) hne).mono ?_
 rintro e u' w'' ⟨rfl,rfl,rfl⟩
 have hp1:=hp.set 0 (.slice none 0 0)
 have hp2:=(hp1.other (p:=⟨q,0,none⟩) (by simpa using hne) (.int .i64 c)).cell 0
 have hq1:=((hq.other (p:=⟨p,0,none⟩) (by simpa using fun h => hne h.symm) (.slice none 0 0)).set 0 (.int .i64 c)).cell 0
 refine ⟨_,?_,hR⟩
 simp [results,Try.results11,go_sem,h6,h7,hp2,hq1]
set_option maxRecDepth 100000 in
theorem door_ret (T : Array Value) (p q : Nat) (wx : World) (x y : Value) (R : Ending → World → Prop) (h6 : T[6]? = some (.pointer (some ⟨p,0,none⟩))) (h7 : T[7]? = some (.pointer (some ⟨q,0,none⟩))) (hp : wx.cell? ⟨p,0,none⟩ = some x) (hq : wx.cell? ⟨q,0,none⟩ = some y)
  (hR : R (.returned (.tuple #[x,y])) wx) :
  bodyPostD Try.prog Try.f11 R Exit.ret { tmps:=T,defers:=[{ target:=Target.fn (Fn.func 37) #[.pointer (some ⟨p,0,none⟩),.pointer (some ⟨q,0,none⟩)],args:=#[] }] } wx:=by
 refine leaves_cons (f:=37) (args:=#[.pointer (some ⟨p,0,none⟩),.pointer (some ⟨q,0,none⟩)]) (by simp) (by simp [go_sem]) ?_
 refine (unify1_idle p q wx).mono ?_
 rintro e u' w'' ⟨rfl,rfl,rfl⟩
 refine ⟨_,?_,hR⟩
 simp [results,Try.results11,go_sem,h6,h7,hp,hq]
set_option maxRecDepth 100000 in
set_option maxHeartbeats 3200000 in
theorem unify_any (N : Nat → Prop) (s : List Ty) (v : Value) (a b : Ty) (cs ds : List Value) (w : World) (hv : TysV w N s v) (hz : ∀ t ∈ s,t = Un.zero) (h0 : 0 < s.length) (hl : s.length ≤ 900) (hwf : Un.wf s = some true) (ha : TyV w N a cs) (hb : TyV w N b ds) (hsa : size a ≤ 40000) (hsb : size b ≤ 40000)
  (r : Except Int (List Ty)) (hr : Un.unify s.length a b = some r) :
  Calls Try.prog 11 #[v,.agg cs.toArray,.agg ds.toArray] w (UnifyP r w):=by
 have hmf:=run_makeUnify1
 obtain ⟨pa,ka,rfl,_⟩:=ha.shape
 obtain ⟨pb,kb,rfl,_⟩:=hb.shape
 obtain ⟨ps,kp,rfl⟩:=hv.shape
 have HV:=hid hv
 have HZ:=hid hz
 have HA:=hid ha
 have HB:=hid hb
 have HR:=hid hr
 have HW:=hid hwf
 have HS : Hid (∀ t ∈ s,size t ≤ 90000):=hid (fun t ht => by rw [hz t ht];decide)
 obtain ⟨w1,hw1⟩ : ∃ w1,w1 = (((w.alloc (.cells #[.int .i64 (kd a),.int .i64 (nm a),.slice pa (ar a).length ka] 24)).alloc (.cells #[.int .i64 (kd b),.int .i64 (nm b),.slice pb (ar b).length kb] 24)).alloc (.cells #[.slice none 0 0] 22)).alloc (.cells #[.int .i64 0] 36):=⟨_,rfl⟩
 have HF1 : Hid (Fr [] w w1):=hid (by rw [hw1];exact ((((Fr.refl _ _).alloc _).alloc _).alloc _).alloc _)
 have HBA1 : Hid (Blk w1 w.heap.size 24 #[.int .i64 (kd a),.int .i64 (nm a),.slice pa (ar a).length ka]):=hid (by rw [hw1];exact (((Blk.new _ _ _).alloc _).alloc _).alloc _)
 have HBB1 : Hid (Blk w1 (w.heap.size + 1) 24 #[.int .i64 (kd b),.int .i64 (nm b),.slice pb (ar b).length kb]):=hid (by rw [hw1];exact ((Blk.new_at (by simp)).alloc _).alloc _)
 have HBP1 : Hid (Blk w1 (w.heap.size + 1 + 1) 22 #[.slice none 0 0]):=hid (by rw [hw1];exact (Blk.new_at (by simp)).alloc _)
 have HBQ1 : Hid (Blk w1 (w.heap.size + 1 + 1 + 1) 36 #[.int .i64 0]):=hid (by rw [hw1];exact Blk.new_at (by simp))
 clear hv hz ha hb hr hwf
 go_enter_defers Try.func11,Try.ntmps11
 go_wp2_with fail
 rw [← hw1]
 clear hw1
 refine (wf_any N s _ w1 (HV.out.keep0 HF1.out) (by omega) HS.out true HW.out).mono ?_
 rintro e w2 ⟨rfl,hf2⟩
 have HF2:=hid (HF1.out.trans hf2)
 have HBA2:=hid (HBA1.out.keep hf2 (by simp))
 have HBB2:=hid (HBB1.out.keep hf2 (by simp))
 have HBP2:=hid (HBP1.out.keep hf2 (by simp))
 have HBQ2:=hid (HBQ1.out.keep hf2 (by simp))
 clear hf2 HBA1 HBB1 HBP1 HBQ1
 have c0 : w2.cell? ⟨w.heap.size,0,none⟩ = some (.int .i64 (kd a)):=HBA2.out.cell 0
 have c1 : w2.cell? ⟨w.heap.size,1,none⟩ = some (.int .i64 (nm a)):=HBA2.out.cell 1
 have c2 : w2.cell? ⟨w.heap.size,2,none⟩ = some (.slice pa (ar a).length ka):=HBA2.out.cell 2
 have cl : w.heap.size < w2.heap.size:=HBA2.out.lt
 go_wp2_with fail
 refine (element_any N s (by omega) ps kp a _ w2 (HA.out.keep0 HF2.out)).mono ?_
 rintro e w3 ⟨rfl,hf3⟩
 have HF3:=hid (HF2.out.trans hf3)
 have HBA3:=hid (HBA2.out.keep hf3 (by simp))
 have HBB3:=hid (HBB2.out.keep hf3 (by simp))
 have HBP3:=hid (HBP2.out.keep hf3 (by simp))
 have HBQ3:=hid (HBQ2.out.keep hf3 (by simp))
 clear hf3 c0 c1 c2 cl HBA2 HBB2 HBP2 HBQ2
 have HPAN : Hid (∀ (c : Int) (wx : World),r = .error c → Fr [] w3 wx → UnifyP r w (.returned (.tuple #[.slice none 0 0,.int .i64 c])) ((wx.setCell ⟨w.heap.size + 1 + 1,0,none⟩ (.slice none 0 0)).setCell ⟨w.heap.size + 1 + 1 + 1,0,none⟩ (.int .i64 c))):=hid (fun c wx hc hf => by
  subst hc
  exact ⟨((HF3.out.trans hf).setCell (.inr (by simp;omega)) _).setCell (.inr (by simp;omega)) _,rfl⟩)
 cases e1 : element s.length a with
 | false =>
  have HE1 : Hid (r = .error 1):=hid (by
   have h1:=HR.out
   unfold Un.unify at h1
   rw [e1] at h1
   simpa using h1.symm)
  clear e1
  go_wp2_with fail
  refine (refuse_yes 1 _).mono ?_
  rintro e w4 ⟨rfl,rfl⟩
  unfold failE
  go_wp2_with fail
  exact door_panic _ _ _ _ 1 _ _ _ rfl rfl HBP3.out HBQ3.out (by omega) (HPAN.out 1 _ HE1.out (Fr.refl _ _))
 | true =>
  have HE1:=hid e1
  have c0 : w3.cell? ⟨w.heap.size + 1,0,none⟩ = some (.int .i64 (kd b)):=HBB3.out.cell 0
  have c1 : w3.cell? ⟨w.heap.size + 1,1,none⟩ = some (.int .i64 (nm b)):=HBB3.out.cell 1
  have c2 : w3.cell? ⟨w.heap.size + 1,2,none⟩ = some (.slice pb (ar b).length kb):=HBB3.out.cell 2
  have cl : w.heap.size + 1 < w3.heap.size:=HBB3.out.lt
  clear e1
  go_wp2_with fail
  refine (element_any N s (by omega) ps kp b _ w3 (HB.out.keep0 HF3.out)).mono ?_
  rintro e w4 ⟨rfl,hf4⟩
  have HF34:=hid hf4
  have HF4:=hid (HF3.out.trans hf4)
  have HBA4:=hid (HBA3.out.keep hf4 (by simp))
  have HBB4:=hid (HBB3.out.keep hf4 (by simp))
  have HBP4:=hid (HBP3.out.keep hf4 (by simp))
  have HBQ4:=hid (HBQ3.out.keep hf4 (by simp))
  clear hf4 c0 c1 c2 cl HBA3 HBB3 HBP3 HBQ3
  cases e2 : element s.length b with
  | false =>
   have HE2 : Hid (r = .error 1):=hid (by
    have h1:=HR.out
    unfold Un.unify at h1
    rw [e2] at h1
    simpa using h1.symm)
   clear e2
   go_wp2_with fail
   refine (refuse_yes 1 _).mono ?_
   rintro e w5 ⟨rfl,rfl⟩
   unfold failE
   go_wp2_with fail
   exact door_panic _ _ _ _ 1 _ _ _ rfl rfl HBP4.out HBQ4.out (by omega) (HPAN.out 1 _ HE2.out HF34.out)
  | true =>
   have HU : Hid (Un.unified s.length a b = some r):=hid (by
    have h1:=HR.out
    unfold Un.unify at h1
    rw [HE1.out,e2] at h1
    simpa using h1)
   clear e2
   go_wp2_with fail
   refine (refuse_no 1 _).mono ?_
   rintro e w5 ⟨rfl,rfl⟩
   have c0 : w4.cell? ⟨w.heap.size,0,none⟩ = some (.int .i64 (kd a)):=HBA4.out.cell 0
   have c1 : w4.cell? ⟨w.heap.size,1,none⟩ = some (.int .i64 (nm a)):=HBA4.out.cell 1
   have c2 : w4.cell? ⟨w.heap.size,2,none⟩ = some (.slice pa (ar a).length ka):=HBA4.out.cell 2
   have c3 : w4.cell? ⟨w.heap.size + 1,0,none⟩ = some (.int .i64 (kd b)):=HBB4.out.cell 0
   have c4 : w4.cell? ⟨w.heap.size + 1,1,none⟩ = some (.int .i64 (nm b)):=HBB4.out.cell 1
   have c5 : w4.cell? ⟨w.heap.size + 1,2,none⟩ = some (.slice pb (ar b).length kb):=HBB4.out.cell 2
   have cl : w.heap.size < w4.heap.size:=HBA4.out.lt
   have cm : w.heap.size + 1 < w4.heap.size:=HBB4.out.lt
   go_wp2_with fail
   refine (unified_any N s _ a b _ _ w4 (HV.out.keep0 HF4.out) HZ.out h0 hl (HA.out.keep0 HF4.out) (HB.out.keep0 HF4.out) hsa hsb r HU.out).mono ?_
   rintro e w6 ⟨hf6,he6⟩
   have HF46:=hid (HF34.out.trans hf6)
   have HF6:=hid (HF4.out.trans hf6)
   have HBP6:=hid (HBP4.out.keep hf6 (by simp))
   have HBQ6:=hid (HBQ4.out.keep hf6 (by simp))
   have hpl:=HBP4.out.lt
   have hql:=HBQ4.out.lt
   clear hf6 c0 c1 c2 c3 c4 c5 cl cm HBA4 HBB4 HBP4 HBQ4
   cases r with
   | error c =>
    simp only at he6
    subst he6
    unfold failE
    go_wp2_with fail
    exact door_panic _ _ _ _ c _ _ _ rfl rfl HBP6.out HBQ6.out (by omega) (HPAN.out c _ rfl HF46.out)
   | ok rs =>
    obtain ⟨v6,rfl,hv6⟩:=he6
    obtain ⟨p6,k6,rfl⟩:=hv6.shape
    have HV6:=hid hv6
    have x0 : w6.cell? ⟨w.heap.size + 1 + 1,0,none⟩ = some (.slice none 0 0):=HBP6.out.cell 0
    have x1 : w6.frozen? ⟨w.heap.size + 1 + 1,0,none⟩ = false:=HBP6.out.frozen 0
    have x2 : w6.cell? ⟨w.heap.size + 1 + 1 + 1,0,none⟩ = some (.int .i64 0):=HBQ6.out.cell 0
    have x3 : w6.frozen? ⟨w.heap.size + 1 + 1 + 1,0,none⟩ = false:=HBQ6.out.frozen 0
    have xl : w.heap.size + 1 + 1 < w6.heap.size:=HBP6.out.lt
    have xm : w.heap.size + 1 + 1 + 1 < w6.heap.size:=HBQ6.out.lt
    clear hv6
    go_wp2_with fail
    have hp1:=HBP6.out.set 0 (.slice p6 rs.length k6)
    have hp2:=(hp1.other (p:=⟨w.heap.size + 1 + 1 + 1,0,none⟩) (by simp) (.int .i64 0)).cell 0
    have hq1:=((HBQ6.out.other (p:=⟨w.heap.size + 1 + 1,0,none⟩) (by simp) (.slice p6 rs.length k6)).set 0 (.int .i64 0)).cell 0
    have hf7 : Fr [w.heap.size + 1 + 1,w.heap.size + 1 + 1 + 1] w6 ((w6.setCell ⟨w.heap.size + 1 + 1,0,none⟩ (.slice p6 rs.length k6)).setCell ⟨w.heap.size + 1 + 1 + 1,0,none⟩ (.int .i64 0)):=((Fr.refl _ w6).setCell (.inl (by simp)) _).setCell (.inl (by simp)) _
    exact door_ret _ _ _ _ _ _ _ rfl rfl hp2 hq1 ⟨((HF6.out.nil _).trans hf7).sub (fun k hk => .inr (by simp at hk;omega)),_,rfl,TysV.weak (HV6.out.keep hf7 (fun k hk h => by simp only [List.mem_cons,List.not_mem_nil,or_false] at hk;(have h3 : w4.heap.size ≤ k:=h);omega)) (fun k hk h => by (have h3 : w4.heap.size ≤ k:=h);(show w.heap.size ≤ k);omega)⟩
open Un (kd nm ar size sizes tm? setNext headOk speaker)
namespace Un
def joinG (fs : Nat) : Nat → Int → List Tm → List (Int × Int) → Option (Option (List Tm))
 | 0,_,_,_ => none
 | f + 1,n,ts,ps => match ps.getLast? with
  | none => some (some ts)
  | some (x,y) => match speaker fs ts x with
   | none => none
   | some (t1,a) => match speaker fs t1 y with
    | none => none
    | some (t2,b) =>
     if a = b then joinG fs f n t2 ps.dropLast
     else if a < n then joinG fs f n (setNext t2 a.toNat b) ps.dropLast
     else if b < n then joinG fs f n (setNext t2 b.toNat a) ps.dropLast
     else match tm? t2 a,tm? t2 b with
      | some p,some q => if headOk p q then joinG fs f n (setNext t2 a.toNat b) (ps.dropLast ++ p.args.zip q.args) else some none
      | _,_ => none
end Un
theorem joinG_nil {fs f : Nat} {n : Int} {ts : List Tm} : Un.joinG fs (f + 1) n ts [] = some (some ts):=by rw [Un.joinG];rfl
theorem joinG_step {fs f : Nat} {n : Int} {ts : List Tm} {qs : List (Int × Int)} {x y : Int} {r : Option (List Tm)} (h : Un.joinG fs (f + 1) n ts (qs ++ [(x,y)]) = some r) :
  ∃ t1 a t2 b,speaker fs ts x = some (t1,a) ∧ speaker fs t1 y = some (t2,b) ∧ ((a = b ∧ Un.joinG fs f n t2 qs = some r) ∨ (a ≠ b ∧ a < n ∧ Un.joinG fs f n (setNext t2 a.toNat b) qs = some r) ∨ (a ≠ b ∧ ¬ a < n ∧ b < n ∧ Un.joinG fs f n (setNext t2 b.toNat a) qs = some r) ∨
   (a ≠ b ∧ ¬ a < n ∧ ¬ b < n ∧ ∃ p q,tm? t2 a = some p ∧ tm? t2 b = some q ∧ ((headOk p q = true ∧ Un.joinG fs f n (setNext t2 a.toNat b) (qs ++ p.args.zip q.args) = some r) ∨ (headOk p q = false ∧ r = none)))):=by
 rw [Un.joinG] at h
 simp only [List.getLast?_concat,List.dropLast_concat] at h
 cases h1 : speaker fs ts x with
 | none => simp [h1] at h
 | some z1 =>
  obtain ⟨t1,a⟩:=z1
  rw [h1] at h
  simp only at h
  cases h2 : speaker fs t1 y with
  | none => simp [h2] at h
  | some z2 =>
   obtain ⟨t2,b⟩:=z2
   rw [h2] at h
   simp only at h
   refine ⟨t1,a,t2,b,rfl,h2,?_⟩
   split at h
   ·rename_i e;exact .inl ⟨e,h⟩
   ·rename_i e
    split at h
    ·rename_i e2;exact .inr (.inl ⟨e,e2,h⟩)
    ·rename_i e2
     split at h
     ·rename_i e3;exact .inr (.inr (.inl ⟨e,e2,e3,h⟩))
     ·rename_i e3
      cases h3 : tm? t2 a with
      | none => simp [h3] at h
      | some p =>
       cases h4 : tm? t2 b with
       | none => simp [h3,h4] at h
       | some q =>
        rw [h3,h4] at h
        simp only at h
        refine .inr (.inr (.inr ⟨e,e2,e3,p,q,rfl,rfl,?_⟩))
        cases h5 : headOk p q with
        | true => rw [if_pos h5] at h;exact .inl ⟨rfl,h⟩
        | false =>
         rw [if_neg (by simp [h5])] at h
         simp only [Option.some.injEq] at h
         exact .inr ⟨rfl,h.symm⟩
theorem setNext_argsA {A : Nat} {ts : List Tm} (h : ∀ a ∈ ts,a.args.length ≤ A) (i : Nat) (x : Int) : ∀ a ∈ setNext ts i x,a.args.length ≤ A:=by
 intro a ha
 unfold setNext at ha
 cases h1 : ts[i]? with
 | none => rw [h1] at ha;exact h a ha
 | some c =>
  rw [h1] at ha
  rcases List.mem_or_eq_of_mem_set ha with h2 | rfl
  ·exact h a h2
  ·exact h c (List.mem_of_getElem? h1)
theorem speaker_argsA {A : Nat} : ∀ {f : Nat} {ts ts' : List Tm} {i r : Int},speaker f ts i = some (ts',r) → (∀ a ∈ ts,a.args.length ≤ A) → ∀ a ∈ ts',a.args.length ≤ A
 | 0,_,_,_,_,h,_ => by simp [speaker] at h
 | f + 1,ts,ts',i,r,h,hA => by
  rw [speaker] at h
  cases h1 : tm? ts i with
  | none => simp [h1] at h
  | some a =>
   rw [h1] at h
   simp only at h
   split at h
   ·simp only [Option.some.injEq,Prod.mk.injEq] at h
    obtain ⟨rfl,rfl⟩:=h
    exact hA
   ·cases h2 : tm? ts a.next with
    | none => simp [h2] at h
    | some c =>
     rw [h2] at h
     exact speaker_argsA h (setNext_argsA hA _ _)
theorem SolFr.pcells {b : Nat} {tv : Value} {w w' : World} (h : SolFr b tv tv w w') {g : Nat} (hg : g < w.heap.size) (hb : g ≠ b) (ho : tv.ownBlock ≠ some g) (o : Nat) : w'.cell? ⟨g,o,none⟩ = w.cell? ⟨g,o,none⟩:=
 (h.fr (X:=b :: tv.ownBlock.toList) (by simp) (fun k hk => by simp [hk])).cell hg (by simp [hb];exact ho) o
end Go.Proofs.Ytcdlnhfgehhkcaa
