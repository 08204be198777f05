/- part of the proof -/
import Derived.Test.YtcdlnhfgehhkcaaQ40
import Derived.Test.YtcdlnhfgehhkcaaQ38
set_option linter.unusedVariables false
set_option linter.unusedSimpArgs false
set_option linter.unusedSectionVars false
namespace Go.Proofs.Ytcdlnhfgehhkcaa
open Go.RowKit Go.Lib
open Un (kd nm ar size sizes over occ Res rfind Okl RSol)
theorem rfind_self {s : List Ty} {m : Nat} (hm : s[m]? = some Un.zero) : rfind s 1 (Un.var m) = some (Un.var m):=by
 rw [rfind,if_pos (show kd (Un.var m) = 9 from rfl),if_pos (show 0 ≤ nm (Un.var m) from by show (0 : Int) ≤ (m : Int);omega)]
 rw [show (nm (Un.var m)).toNat = m from Int.toNat_natCast m,hm]
 rfl
theorem rfind_str {s : List Ty} {x : Ty} (h : kd x ≠ 9) : rfind s 1 x = some x:=by rw [rfind,if_neg h]
theorem solve_seq {s : List Ty} {ps : List (Ty × Ty)} {r : Option (List Ty)} (h : RSol s ps r) : Okl s → (∀ p ∈ ps,over s.length p.1 = true ∧ over s.length p.2 = true) → s.length ≤ 100000 → SolveSeq s ps r:=by
 have rest : ∀ {s : List Ty} {a b : Ty} {ps : List (Ty × Ty)},(∀ p ∈ (a,b) :: ps,over s.length p.1 = true ∧ over s.length p.2 = true) → (over s.length a = true ∧ over s.length b = true) ∧ ∀ p ∈ ps,over s.length p.1 = true ∧ over s.length p.2 = true:=fun hp => ⟨hp _ (List.mem_cons_self ..),fun p h => hp p (List.mem_cons_of_mem _ h)⟩
 induction h with
 | nil s => intro _ _ _;exact .nil s
 | same s a b x y ps r f hx hy h9 k9 he h ih => intro hs hp hl;exact .step s a b ps s r (solve_same s a b x y f hx hy h9 k9 he) (ih hs (rest hp).2 hl)
 | lt s a b x y ps r f hx hy h9 k9 he h ih =>
  intro hs hp hl
  obtain ⟨⟨va,vb⟩,hp'⟩:=rest hp
  obtain ⟨vx,ux,ex⟩:=Un.rfind_spec hs hx va
  obtain ⟨vy,uy,ey⟩:=Un.rfind_spec hs hy vb
  obtain ⟨m,hym,hm⟩:=uy k9
  have hnm : nm y = m:=by rw [hym];rfl
  have hml:=(List.getElem?_eq_some_iff.1 hm).1
  rw [show (nm y).toNat = m by omega] at ih
  exact .step s a b ps _ r (solve_lt s a b x y f hx hy h9 k9 m hnm (by omega) hml hl) (ih (Un.okl_set hs vx) (fun p hp => by rw [List.length_set];exact hp' p hp) (by rw [List.length_set];exact hl))
 | gt s a b x y ps r f hx hy h9 k9 he h ih =>
  intro hs hp hl
  obtain ⟨⟨va,vb⟩,hp'⟩:=rest hp
  obtain ⟨vx,ux,ex⟩:=Un.rfind_spec hs hx va
  obtain ⟨vy,uy,ey⟩:=Un.rfind_spec hs hy vb
  obtain ⟨m,hxm,hm⟩:=ux h9
  have hnm : nm x = m:=by rw [hxm];rfl
  have hml:=(List.getElem?_eq_some_iff.1 hm).1
  rw [show (nm x).toNat = m by omega] at ih
  exact .step s a b ps _ r (solve_gt s a b x y f hx hy h9 k9 m hnm (by omega) hml hl) (ih (Un.okl_set hs vy) (fun p hp => by rw [List.length_set];exact hp' p hp) (by rw [List.length_set];exact hl))
 | occL s a b x y z ps f hx hy h9 k9 hz ho =>
  intro hs hp hl
  obtain ⟨⟨va,vb⟩,hp'⟩:=rest hp
  obtain ⟨vx,ux,ex⟩:=Un.rfind_spec hs hx va
  obtain ⟨vy,uy,ey⟩:=Un.rfind_spec hs hy vb
  obtain ⟨m,hxm,hm⟩:=ux h9
  have hnm : nm x = m:=by rw [hxm];rfl
  rw [hnm] at ho
  exact .fail s a b ps (solve_occL s a b x y f hx hy h9 k9 m hnm hs vy z hz ho)
 | occR s a b x y z ps f hx hy h9 k9 hz ho =>
  intro hs hp hl
  obtain ⟨⟨va,vb⟩,hp'⟩:=rest hp
  obtain ⟨vx,ux,ex⟩:=Un.rfind_spec hs hx va
  obtain ⟨vy,uy,ey⟩:=Un.rfind_spec hs hy vb
  obtain ⟨m,hym,hm⟩:=uy k9
  have hnm : nm y = m:=by rw [hym];rfl
  rw [hnm] at ho
  have h2:=solve_occL s y x y x 1 (by rw [hym];exact rfind_self hm) (rfind_str h9) k9 h9 m hnm hs vx z hz ho
  exact .fail s a b ps (solve_right s a b x y f hx hy h9 k9 none h2)
 | clash s a b x y ps f hx hy h9 k9 he =>
  intro hs hp hl
  by_cases h1 : kd x = kd y
  ·by_cases h2 : nm x = nm y
   ·exact .fail s a b ps (solve_clash3 s a b x y f hx hy h9 k9 h1 h2 (fun h3 => he ⟨h1,h2,h3⟩))
   ·exact .fail s a b ps (solve_clash2 s a b x y f hx hy h9 k9 h1 h2)
  ·exact .fail s a b ps (solve_clash1 s a b x y f hx hy h9 k9 h1)
 | argsF s a b x y ps f hx hy h9 k9 he h ih =>
  intro hs hp hl
  obtain ⟨⟨va,vb⟩,hp'⟩:=rest hp
  obtain ⟨vx,ux,ex⟩:=Un.rfind_spec hs hx va
  obtain ⟨vy,uy,ey⟩:=Un.rfind_spec hs hy vb
  have hz : ∀ p ∈ (ar x).zip (ar y),over s.length p.1 = true ∧ over s.length p.2 = true:=fun p hp => ⟨Un.over_args vx h9 _ (List.of_mem_zip hp).1,Un.over_args vy k9 _ (List.of_mem_zip hp).2⟩
  exact .fail s a b ps (solve_args s a b x y f hx hy h9 k9 he.1 he.2.1 _ rfl he.2.2.symm none (ih hs hz hl))
 | bindL s a b x y z ps r f hx hy h9 k9 hz ho h ih =>
  intro hs hp hl
  obtain ⟨⟨va,vb⟩,hp'⟩:=rest hp
  obtain ⟨vx,ux,ex⟩:=Un.rfind_spec hs hx va
  obtain ⟨vy,uy,ey⟩:=Un.rfind_spec hs hy vb
  obtain ⟨m,hxm,hm⟩:=ux h9
  have hnm : nm x = m:=by rw [hxm];rfl
  have hml:=(List.getElem?_eq_some_iff.1 hm).1
  rw [show (nm x).toNat = m by omega] at ih
  rw [hnm] at ho
  exact .step s a b ps _ r (solve_bindL s a b x y f hx hy h9 k9 m hnm hs vy z hz ho hml hl) (ih (Un.okl_set hs vy) (fun p hp => by rw [List.length_set];exact hp' p hp) (by rw [List.length_set];exact hl))
 | bindR s a b x y z ps r f hx hy h9 k9 hz ho h ih =>
  intro hs hp hl
  obtain ⟨⟨va,vb⟩,hp'⟩:=rest hp
  obtain ⟨vx,ux,ex⟩:=Un.rfind_spec hs hx va
  obtain ⟨vy,uy,ey⟩:=Un.rfind_spec hs hy vb
  obtain ⟨m,hym,hm⟩:=uy k9
  have hnm : nm y = m:=by rw [hym];rfl
  have hml:=(List.getElem?_eq_some_iff.1 hm).1
  rw [show (nm y).toNat = m by omega] at ih
  rw [hnm] at ho
  have h2:=solve_bindL s y x y x 1 (by rw [hym];exact rfind_self hm) (rfind_str h9) k9 h9 m hnm hs vx z hz ho hml hl
  exact .step s a b ps _ r (solve_right s a b x y f hx hy h9 k9 _ h2) (ih (Un.okl_set hs vx) (fun p hp => by rw [List.length_set];exact hp' p hp) (by rw [List.length_set];exact hl))
 | args s a b x y s1 ps r f hx hy h9 k9 hh h h' ih ih' =>
  intro hs hp hl
  obtain ⟨⟨va,vb⟩,hp'⟩:=rest hp
  obtain ⟨vx,ux,ex⟩:=Un.rfind_spec hs hx va
  obtain ⟨vy,uy,ey⟩:=Un.rfind_spec hs hy vb
  have hz : ∀ p ∈ (ar x).zip (ar y),over s.length p.1 = true ∧ over s.length p.2 = true:=fun p hp => ⟨Un.over_args vx h9 _ (List.of_mem_zip hp).1,Un.over_args vy k9 _ (List.of_mem_zip hp).2⟩
  have h1:=Un.rsol_spec h hs hz
  exact .step s a b ps s1 r (solve_args s a b x y f hx hy h9 k9 hh.1 hh.2.1 _ rfl hh.2.2.symm (some s1) (ih hs hz hl)) (ih' h1.1 (fun p hp => by rw [h1.2.1];exact hp' p hp) (by rw [h1.2.1];exact hl))
theorem SolveSeq.one {s : List Ty} {a b : Ty} {r : Option (List Ty)} (h : SolveSeq s [(a,b)] r) : Solves s a b r:=match r,h with
 | none,.fail _ _ _ _ h => h
 | _,.step _ _ _ _ _ _ h (.nil _) => h
theorem solves_one {s : List Ty} {a b : Ty} {r : Option (List Ty)} (h : RSol s [(a,b)] r) (hs : Okl s) (ha : over s.length a = true) (hb : over s.length b = true) (hl : s.length ≤ 100000) : Solves s a b r:=
 (solve_seq h hs (fun p hp => by rw [List.mem_singleton] at hp;subst hp;exact ⟨ha,hb⟩) hl).one
open Un (kd nm ar size sizes over occ Res depth Okl Ranked Rk rfind RSol FormedP)
namespace Un
theorem rfind_size {s : List Ty} {A : Nat} (hs : ∀ x ∈ s,size x ≤ A) : ∀ {f : Nat} {t y : Ty},rfind s f t = some y → size t ≤ A → size y ≤ A:=by
 intro f
 induction f with
 | zero => intro t y h;simp [rfind] at h
 | succ g ih =>
  intro t y h ht
  obtain ⟨g',hg,hc⟩:=rfind_cases h
  have : g' = g:=by omega
  subst this
  rcases hc with ⟨_,rfl⟩ | ⟨n,x,_,_,hx,⟨_,rfl⟩ | ⟨_,hy⟩⟩
  ·exact ht
  ·exact ht
  ·exact ih hy (hs x (List.mem_of_getElem? hx))
theorem rsol_size {A : Nat} {s : List Ty} {ps : List (Ty × Ty)} {r : Option (List Ty)} (h : RSol s ps r) : (∀ x ∈ s,size x ≤ A) → (∀ p ∈ ps,size p.1 ≤ A ∧ size p.2 ≤ A) → ∀ t,r = some t → ∀ x ∈ t,size x ≤ A:=by
 have rest : ∀ {a b : Ty} {ps : List (Ty × Ty)},(∀ p ∈ (a,b) :: ps,size p.1 ≤ A ∧ size p.2 ≤ A) → (size a ≤ A ∧ size b ≤ A) ∧ ∀ p ∈ ps,size p.1 ≤ A ∧ size p.2 ≤ A:=fun hp => ⟨hp _ (List.mem_cons_self ..),fun p h => hp p (List.mem_cons_of_mem _ h)⟩
 have set : ∀ {s : List Ty} {m : Nat} {x : Ty},(∀ x ∈ s,size x ≤ A) → size x ≤ A → ∀ y ∈ s.set m x,size y ≤ A:=fun hs hx y hy => by
  rcases List.mem_or_eq_of_mem_set hy with h | rfl
  ·exact hs y h
  ·exact hx
 induction h with
 | nil s => intro hs _ t h;cases h;exact hs
 | same s a b x y ps r f hx hy h9 k9 he h ih => intro hs hp;exact ih hs (rest hp).2
 | lt s a b x y ps r f hx hy h9 k9 he h ih => intro hs hp;exact ih (set hs (rfind_size hs hx (rest hp).1.1)) (rest hp).2
 | gt s a b x y ps r f hx hy h9 k9 he h ih => intro hs hp;exact ih (set hs (rfind_size hs hy (rest hp).1.2)) (rest hp).2
 | occL => intro _ _ t h;cases h
 | occR => intro _ _ t h;cases h
 | clash => intro _ _ t h;cases h
 | argsF => intro _ _ t h;cases h
 | bindL s a b x y z ps r f hx hy h9 k9 hz ho h ih => intro hs hp;exact ih (set hs (rfind_size hs hy (rest hp).1.2)) (rest hp).2
 | bindR s a b x y z ps r f hx hy h9 k9 hz ho h ih => intro hs hp;exact ih (set hs (rfind_size hs hx (rest hp).1.1)) (rest hp).2
 | args s a b x y s1 ps r f hx hy h9 k9 hh h h' ih ih' =>
  intro hs hp
  have h1:=rfind_size hs hx (rest hp).1.1
  have h2:=rfind_size hs hy (rest hp).1.2
  exact ih' (ih hs (fun p hm => ⟨by have:=size_ar (List.of_mem_zip hm).1;omega,by have:=size_ar (List.of_mem_zip hm).2;omega⟩) s1 rfl) (rest hp).2
theorem min_ex {P : Nat → Prop} : ∀ n,P n → ∃ m,m ≤ n ∧ P m ∧ ∀ i,P i → m ≤ i:=by
 intro n
 induction n using Nat.strongRecOn with
 | ind n ih =>
  intro hn
  by_cases h : ∃ i,i < n ∧ P i
  ·obtain ⟨i,hi,hp⟩:=h
   obtain ⟨m,h1,h2,h3⟩:=ih i hi hp
   exact ⟨m,by omega,h2,h3⟩
  ·refine ⟨n,Nat.le_refl _,hn,fun i hp => ?_⟩
   by_cases h1 : n ≤ i
   ·exact h1
   ·exact absurd ⟨i,by omega,hp⟩ h
theorem least_ex {s : List Ty} (hs : Okl s) (hr : Ranked s) : ∃ fr L,Least s fr L:=by
 classical
 obtain ⟨zs,hzl,hz⟩:=zs_ex hs hr
 have hex : ∀ v : Nat,s[v]? = some zero → ∃ m,m ≤ v ∧ (m < s.length ∧ Res s (var m) (var v)) ∧ ∀ i,(i < s.length ∧ Res s (var i) (var v)) → m ≤ i:=fun v hv => min_ex (P:=fun i => i < s.length ∧ Res s (var i) (var v)) v ⟨(List.getElem?_eq_some_iff.1 hv).1,res_var hv⟩
 obtain ⟨fr,hfr⟩ : ∃ fr : Nat → Nat,∀ v : Nat,s[v]? = some zero → fr v ≤ v ∧ (fr v < s.length ∧ Res s (var (fr v)) (var v)) ∧ ∀ i,(i < s.length ∧ Res s (var i) (var v)) → fr v ≤ i:=
  ⟨fun v => if h : s[v]? = some zero then Classical.choose (hex v h) else 0,fun v hv => by
   simp only
   rw [dif_pos hv]
   exact Classical.choose_spec (hex v hv)⟩
 refine ⟨fr,(List.range s.length).map fun i => lel (ap (ren fr) ((zs[i]?).getD zero)) i,by simp,fun v hv => ?_,fun i hi => ?_⟩
 ·obtain ⟨_,⟨h1,h2⟩,h3⟩:=hfr v hv
  exact ⟨h1,h2,fun i hi hri => h3 i ⟨hi,hri⟩⟩
 ·have hzi:=List.getElem?_eq_getElem (l:=zs) (i:=i) (by omega)
  refine ⟨_,hz i _ hzi,?_⟩
  have hzo:=Res.over (hz i _ hzi) hs.hel (over_nat hi)
  have hro:=ren_over (zs[i]) hzo (fr:=fr) (fun v hv => by
   obtain ⟨m,rfl,hm⟩:=(hz i _ hzi).left0 hs hv
   exact (hfr m hm).2.1.1)
  rw [List.getElem?_map,List.getElem?_range hi,Option.map_some,hzi,Option.getD_some]
  unfold lel
  by_cases hc : kd (ap (ren fr) zs[i]) = 9 ∧ nm (ap (ren fr) zs[i]) = i
  ·left
   rw [if_pos hc]
   exact ⟨by rw [(over_var hro hc.1).2.2,hc.2],rfl⟩
  ·right
   rw [if_neg hc]
   exact ⟨fun e => hc (by rw [e];exact ⟨rfl,rfl⟩),rfl⟩
structure PreP (s : List Ty) (a b : Ty) : Prop where
 fs : FormedP s
 oa : over s.length a = true
 ob : over s.length b = true
 da : depth a ≤ 8
 db : depth b ≤ 8
def RSpec (s : List Ty) (a b : Ty) (r : Except Int (List Ty)) : Prop:=
 (¬ PreP s a b ∧ r = .error 1) ∨ (PreP s a b ∧ ((RSol s [(a,b)] none ∧ r = .error 8) ∨ ∃ t,RSol s [(a,b)] (some t) ∧ ∃ za,Res t a za ∧ ((¬ (FormedP t ∧ depth za ≤ 8) ∧ r = .error 2) ∨ (FormedP t ∧ depth za ≤ 8 ∧ ∃ fr L,Least t fr L ∧ r = .ok L))))
end Un
def RUniP (r : Except Int (List Ty)) (w : World) (e : Ending) (w' : World) : Prop:=Fr [] w w' ∧ match r with
 | .error c => e = .returned (.tuple #[.slice none 0 0,.int .i64 c])
 | .ok l => ∃ v,e = .returned (.tuple #[v,.int .i64 0]) ∧ TysV w' (fun _ => True) l v
set_option maxRecDepth 100000 in
set_option maxHeartbeats 6400000 in
theorem runify_any (s : List Ty) (v : Value) (a b : Ty) (cs ds : List Value) (w : World) (hv : TysV w (fun _ => True) s v) (ha : TyV w (fun _ => True) a cs) (hb : TyV w (fun _ => True) b ds) (hl : s.length ≤ 900) (hz : ∀ x ∈ s,size x ≤ 90000) (hza : size a ≤ 90000) (hzb : size b ≤ 90000) :
  Calls Try.prog 12 #[v,.agg cs.toArray,.agg ds.toArray] w (fun e w' => ∃ r,Un.RSpec s a b r ∧ RUniP r w e w'):=by
 classical
 obtain ⟨fb,hfb⟩ : ∃ fb : Bool,fb = true ↔ FormedP s:=⟨decide (FormedP s),by simp⟩
 obtain ⟨ps,kp,rfl⟩:=hv.shape
 obtain ⟨p,c,rfl,_⟩:=ha.shape
 obtain ⟨q,d,rfl,_⟩:=hb.shape
 obtain ⟨n,hn⟩ : ∃ n,n = s.length:=⟨_,rfl⟩
 obtain ⟨w1,hw1⟩ : ∃ w1,w1 = (w.alloc (.cells #[.int .i64 (kd a),.int .i64 (nm a),.slice p (ar a).length c] 24)).alloc (.cells #[.int .i64 (kd b),.int .i64 (nm b),.slice q (ar b).length d] 24):=⟨_,rfl⟩
 have HF1 : Hid (Fr [] w w1):=hid (by rw [hw1];exact ((Fr.refl _ _).alloc _).alloc _)
 have HA1 : Hid (Blk w1 w.heap.size 24 #[.int .i64 (kd a),.int .i64 (nm a),.slice p (ar a).length c]):=hid (by rw [hw1];exact (Blk.new _ _ _).alloc _)
 have HB1 : Hid (Blk w1 (w.heap.size + 1) 24 #[.int .i64 (kd b),.int .i64 (nm b),.slice q (ar b).length d]):=hid (by rw [hw1];exact Blk.new_at (by simp))
 have HFO : Hid (∀ wx,Fr [] w wx → Calls Try.prog 42 #[.slice ps n kp] wx (LookP fb wx)):=hid (fun wx hf => by
  have h1:=formed_any s _ wx (hv.keep0 hf) hl fb hfb
  rw [← hn] at h1
  exact h1)
 have HIA : Hid (∀ wx,Fr [] w wx → Calls Try.prog 27 #[.agg #[.int .i64 (kd a),.int .i64 (nm a),.slice p (ar a).length c],.int .i64 n] wx (LookP (over n a) wx)):=hid (fun wx hf => inside_any _ n _ a (Nat.le_refl _) _ wx (ha.keep0 hf))
 have HIB : Hid (∀ wx,Fr [] w wx → Calls Try.prog 27 #[.agg #[.int .i64 (kd b),.int .i64 (nm b),.slice q (ar b).length d],.int .i64 n] wx (LookP (over n b) wx)):=hid (fun wx hf => inside_any _ n _ b (Nat.le_refl _) _ wx (hb.keep0 hf))
 have HDA : Hid (∀ wx,Fr [] w wx → Calls Try.prog 25 #[.agg #[.int .i64 (kd a),.int .i64 (nm a),.slice p (ar a).length c]] wx (NumP (depth a) wx)):=hid (fun wx hf => rdepth_any _ _ a hza (by omega) _ wx (ha.keep0 hf))
 have HDB : Hid (∀ wx,Fr [] w wx → Calls Try.prog 25 #[.agg #[.int .i64 (kd b),.int .i64 (nm b),.slice q (ar b).length d]] wx (NumP (depth b) wx)):=hid (fun wx hf => rdepth_any _ _ b hzb (by omega) _ wx (hb.keep0 hf))
 have BAD : Hid (¬ Un.PreP s a b → Un.RSpec s a b (.error 1)):=hid (fun h => .inl ⟨h,rfl⟩)
 have HFB:=hid hfb
 have HN:=hid hn
 have HV:=hid hv
 have HTA:=hid ha
 have HTB:=hid hb
 have HSZ:=hid hz
 have HZA:=hid hza
 have HZB:=hid hzb
 have hln : n ≤ 900:=by omega
 rw [← hn]
 clear hv ha hb hl hz hza hzb hfb hn
 go_enter Try.func12,Try.ntmps12
 go_wp2_with fail
 rw [← hw1]
 clear hw1
 refine (HFO.out w1 HF1.out).mono ?_
 cases hb1 : fb with
 | false =>
  have HSP:=hid (BAD.out (fun h => by have h1:=HFB.out.2 h.fs;rw [hb1] at h1;cases h1))
  clear hb1
  rintro e w2 ⟨rfl,hf2⟩
  have HF2:=hid (HF1.out.trans hf2)
  have HA2:=hid (HA1.out.keep hf2 (by simp))
  have HB2:=hid (HB1.out.keep hf2 (by simp))
  clear hf2 HF1 HA1 HB1
  have r0 : w2.cell? ⟨w.heap.size,0,none⟩ = some (.int .i64 (kd a)):=HA2.out.cell 0
  have r1 : w2.cell? ⟨w.heap.size,1,none⟩ = some (.int .i64 (nm a)):=HA2.out.cell 1
  have r2 : w2.cell? ⟨w.heap.size,2,none⟩ = some (.slice p (ar a).length c):=HA2.out.cell 2
  have rl : w.heap.size < w2.heap.size:=HA2.out.lt
  have s0 : w2.cell? ⟨w.heap.size + 1,0,none⟩ = some (.int .i64 (kd b)):=HB2.out.cell 0
  have s1 : w2.cell? ⟨w.heap.size + 1,1,none⟩ = some (.int .i64 (nm b)):=HB2.out.cell 1
  have s2 : w2.cell? ⟨w.heap.size + 1,2,none⟩ = some (.slice q (ar b).length d):=HB2.out.cell 2
  have sl : w.heap.size + 1 < w2.heap.size:=HB2.out.lt
  clear r0 r1 r2 rl s0 s1 s2 sl
  go_wp2_with fail
  exact bodyPost_ret (v:=.tuple #[.slice none 0 0,.int .i64 1]) (by simp [results,Try.results12,go_sem]) rfl ⟨_,HSP.out,HF2.out,rfl⟩
 | true =>
  have HFS:=hid (HFB.out.1 hb1)
  clear hb1
  rintro e w2 ⟨rfl,hf2⟩
  have HF2:=hid (HF1.out.trans hf2)
  have HA2:=hid (HA1.out.keep hf2 (by simp))
  have HB2:=hid (HB1.out.keep hf2 (by simp))
  clear hf2 HF1 HA1 HB1
  have r0 : w2.cell? ⟨w.heap.size,0,none⟩ = some (.int .i64 (kd a)):=HA2.out.cell 0
  have r1 : w2.cell? ⟨w.heap.size,1,none⟩ = some (.int .i64 (nm a)):=HA2.out.cell 1
  have r2 : w2.cell? ⟨w.heap.size,2,none⟩ = some (.slice p (ar a).length c):=HA2.out.cell 2
  have rl : w.heap.size < w2.heap.size:=HA2.out.lt
  have s0 : w2.cell? ⟨w.heap.size + 1,0,none⟩ = some (.int .i64 (kd b)):=HB2.out.cell 0
  have s1 : w2.cell? ⟨w.heap.size + 1,1,none⟩ = some (.int .i64 (nm b)):=HB2.out.cell 1
  have s2 : w2.cell? ⟨w.heap.size + 1,2,none⟩ = some (.slice q (ar b).length d):=HB2.out.cell 2
  have sl : w.heap.size + 1 < w2.heap.size:=HB2.out.lt
  go_wp2_with fail
  refine (HIA.out w2 HF2.out).mono ?_
  cases hb2 : over n a with
  | false =>
   have HSP:=hid (BAD.out (fun h => by have h1:=h.oa;rw [← HN.out,hb2] at h1;cases h1))
   clear hb2
   rintro e w3 ⟨rfl,hf3⟩
   have HF3:=hid (HF2.out.trans hf3)
   have HA3:=hid (HA2.out.keep hf3 (by simp))
   have HB3:=hid (HB2.out.keep hf3 (by simp))
   clear hf3 HF2 HA2 HB2
   clear r0 r1 r2 rl s0 s1 s2 sl
   have r0 : w3.cell? ⟨w.heap.size,0,none⟩ = some (.int .i64 (kd a)):=HA3.out.cell 0
   have r1 : w3.cell? ⟨w.heap.size,1,none⟩ = some (.int .i64 (nm a)):=HA3.out.cell 1
   have r2 : w3.cell? ⟨w.heap.size,2,none⟩ = some (.slice p (ar a).length c):=HA3.out.cell 2
   have rl : w.heap.size < w3.heap.size:=HA3.out.lt
   have s0 : w3.cell? ⟨w.heap.size + 1,0,none⟩ = some (.int .i64 (kd b)):=HB3.out.cell 0
   have s1 : w3.cell? ⟨w.heap.size + 1,1,none⟩ = some (.int .i64 (nm b)):=HB3.out.cell 1
   have s2 : w3.cell? ⟨w.heap.size + 1,2,none⟩ = some (.slice q (ar b).length d):=HB3.out.cell 2
   have sl : w.heap.size + 1 < w3.heap.size:=HB3.out.lt
   clear r0 r1 r2 rl s0 s1 s2 sl
   go_wp2_with fail
   exact bodyPost_ret (v:=.tuple #[.slice none 0 0,.int .i64 1]) (by simp [results,Try.results12,go_sem]) rfl ⟨_,HSP.out,HF3.out,rfl⟩
  | true =>
   have HOA:=hid hb2
   clear hb2
   rintro e w3 ⟨rfl,hf3⟩
   have HF3:=hid (HF2.out.trans hf3)
   have HA3:=hid (HA2.out.keep hf3 (by simp))
   have HB3:=hid (HB2.out.keep hf3 (by simp))
   clear hf3 HF2 HA2 HB2
   clear r0 r1 r2 rl s0 s1 s2 sl
   have r0 : w3.cell? ⟨w.heap.size,0,none⟩ = some (.int .i64 (kd a)):=HA3.out.cell 0
   have r1 : w3.cell? ⟨w.heap.size,1,none⟩ = some (.int .i64 (nm a)):=HA3.out.cell 1
   have r2 : w3.cell? ⟨w.heap.size,2,none⟩ = some (.slice p (ar a).length c):=HA3.out.cell 2
   have rl : w.heap.size < w3.heap.size:=HA3.out.lt
   have s0 : w3.cell? ⟨w.heap.size + 1,0,none⟩ = some (.int .i64 (kd b)):=HB3.out.cell 0
   have s1 : w3.cell? ⟨w.heap.size + 1,1,none⟩ = some (.int .i64 (nm b)):=HB3.out.cell 1
   have s2 : w3.cell? ⟨w.heap.size + 1,2,none⟩ = some (.slice q (ar b).length d):=HB3.out.cell 2
   have sl : w.heap.size + 1 < w3.heap.size:=HB3.out.lt
   go_wp2_with fail
   refine (HIB.out w3 HF3.out).mono ?_
   cases hb3 : over n b with
   | false =>
    have HSP:=hid (BAD.out (fun h => by have h1:=h.ob;rw [← HN.out,hb3] at h1;cases h1))
    clear hb3
    rintro e w4 ⟨rfl,hf4⟩
    have HF4:=hid (HF3.out.trans hf4)
    have HA4:=hid (HA3.out.keep hf4 (by simp))
    have HB4:=hid (HB3.out.keep hf4 (by simp))
    clear hf4 HF3 HA3 HB3
    clear r0 r1 r2 rl s0 s1 s2 sl
    have r0 : w4.cell? ⟨w.heap.size,0,none⟩ = some (.int .i64 (kd a)):=HA4.out.cell 0
    have r1 : w4.cell? ⟨w.heap.size,1,none⟩ = some (.int .i64 (nm a)):=HA4.out.cell 1
    have r2 : w4.cell? ⟨w.heap.size,2,none⟩ = some (.slice p (ar a).length c):=HA4.out.cell 2
    have rl : w.heap.size < w4.heap.size:=HA4.out.lt
    have s0 : w4.cell? ⟨w.heap.size + 1,0,none⟩ = some (.int .i64 (kd b)):=HB4.out.cell 0
    have s1 : w4.cell? ⟨w.heap.size + 1,1,none⟩ = some (.int .i64 (nm b)):=HB4.out.cell 1
    have s2 : w4.cell? ⟨w.heap.size + 1,2,none⟩ = some (.slice q (ar b).length d):=HB4.out.cell 2
    have sl : w.heap.size + 1 < w4.heap.size:=HB4.out.lt
    clear r0 r1 r2 rl s0 s1 s2 sl
    go_wp2_with fail
    exact bodyPost_ret (v:=.tuple #[.slice none 0 0,.int .i64 1]) (by simp [results,Try.results12,go_sem]) rfl ⟨_,HSP.out,HF4.out,rfl⟩
   | true =>
    have HOB:=hid hb3
    clear hb3
    rintro e w4 ⟨rfl,hf4⟩
    have HF4:=hid (HF3.out.trans hf4)
    have HA4:=hid (HA3.out.keep hf4 (by simp))
    have HB4:=hid (HB3.out.keep hf4 (by simp))
    clear hf4 HF3 HA3 HB3
    clear r0 r1 r2 rl s0 s1 s2 sl
    have r0 : w4.cell? ⟨w.heap.size,0,none⟩ = some (.int .i64 (kd a)):=HA4.out.cell 0
    have r1 : w4.cell? ⟨w.heap.size,1,none⟩ = some (.int .i64 (nm a)):=HA4.out.cell 1
    have r2 : w4.cell? ⟨w.heap.size,2,none⟩ = some (.slice p (ar a).length c):=HA4.out.cell 2
    have rl : w.heap.size < w4.heap.size:=HA4.out.lt
    have s0 : w4.cell? ⟨w.heap.size + 1,0,none⟩ = some (.int .i64 (kd b)):=HB4.out.cell 0
    have s1 : w4.cell? ⟨w.heap.size + 1,1,none⟩ = some (.int .i64 (nm b)):=HB4.out.cell 1
    have s2 : w4.cell? ⟨w.heap.size + 1,2,none⟩ = some (.slice q (ar b).length d):=HB4.out.cell 2
    have sl : w.heap.size + 1 < w4.heap.size:=HB4.out.lt
    go_wp2_with fail
    refine (HDA.out w4 HF4.out).mono ?_
    cases hb4 : decide (8 < (depth a : Int)) with
    | true =>
     have HSP:=hid (BAD.out (fun h => by have h1:=h.da;have:=of_decide_eq_true hb4;omega))
     have E4:=hid hb4
     rintro e w5 ⟨rfl,hf5⟩
     have HF5:=hid (HF4.out.trans hf5)
     have HA5:=hid (HA4.out.keep hf5 (by simp))
     have HB5:=hid (HB4.out.keep hf5 (by simp))
     clear hf5 HF4 HA4 HB4
     clear r0 r1 r2 rl s0 s1 s2 sl
     have r0 : w5.cell? ⟨w.heap.size,0,none⟩ = some (.int .i64 (kd a)):=HA5.out.cell 0
     have r1 : w5.cell? ⟨w.heap.size,1,none⟩ = some (.int .i64 (nm a)):=HA5.out.cell 1
     have r2 : w5.cell? ⟨w.heap.size,2,none⟩ = some (.slice p (ar a).length c):=HA5.out.cell 2
     have rl : w.heap.size < w5.heap.size:=HA5.out.lt
     have s0 : w5.cell? ⟨w.heap.size + 1,0,none⟩ = some (.int .i64 (kd b)):=HB5.out.cell 0
     have s1 : w5.cell? ⟨w.heap.size + 1,1,none⟩ = some (.int .i64 (nm b)):=HB5.out.cell 1
     have s2 : w5.cell? ⟨w.heap.size + 1,2,none⟩ = some (.slice q (ar b).length d):=HB5.out.cell 2
     have sl : w.heap.size + 1 < w5.heap.size:=HB5.out.lt
     clear r0 r1 r2 rl s0 s1 s2 sl
     go_wp2_with fail
     exact bodyPost_ret (v:=.tuple #[.slice none 0 0,.int .i64 1]) (by simp [results,Try.results12,go_sem]) rfl ⟨_,HSP.out,HF5.out,rfl⟩
    | false =>
     have HDA8 : Hid (depth a ≤ 8):=hid (by have:=of_decide_eq_false hb4;omega)
     rintro e w5 ⟨rfl,hf5⟩
     have HF5:=hid (HF4.out.trans hf5)
     have HA5:=hid (HA4.out.keep hf5 (by simp))
     have HB5:=hid (HB4.out.keep hf5 (by simp))
     clear hf5 HF4 HA4 HB4
     clear r0 r1 r2 rl s0 s1 s2 sl
     have r0 : w5.cell? ⟨w.heap.size,0,none⟩ = some (.int .i64 (kd a)):=HA5.out.cell 0
     have r1 : w5.cell? ⟨w.heap.size,1,none⟩ = some (.int .i64 (nm a)):=HA5.out.cell 1
     have r2 : w5.cell? ⟨w.heap.size,2,none⟩ = some (.slice p (ar a).length c):=HA5.out.cell 2
     have rl : w.heap.size < w5.heap.size:=HA5.out.lt
     have s0 : w5.cell? ⟨w.heap.size + 1,0,none⟩ = some (.int .i64 (kd b)):=HB5.out.cell 0
     have s1 : w5.cell? ⟨w.heap.size + 1,1,none⟩ = some (.int .i64 (nm b)):=HB5.out.cell 1
     have s2 : w5.cell? ⟨w.heap.size + 1,2,none⟩ = some (.slice q (ar b).length d):=HB5.out.cell 2
     have sl : w.heap.size + 1 < w5.heap.size:=HB5.out.lt
     go_wp2_with fail
     clear hb4
     refine (HDB.out w5 HF5.out).mono ?_
     cases hb5 : decide (8 < (depth b : Int)) with
     | true =>
      have HSP:=hid (BAD.out (fun h => by have h1:=h.db;have:=of_decide_eq_true hb5;omega))
      rintro e w6 ⟨rfl,hf6⟩
      have HF6:=hid (HF5.out.trans hf6)
      have HA6:=hid (HA5.out.keep hf6 (by simp))
      have HB6:=hid (HB5.out.keep hf6 (by simp))
      clear hf6 HF5 HA5 HB5
      clear r0 r1 r2 rl s0 s1 s2 sl
      have r0 : w6.cell? ⟨w.heap.size,0,none⟩ = some (.int .i64 (kd a)):=HA6.out.cell 0
      have r1 : w6.cell? ⟨w.heap.size,1,none⟩ = some (.int .i64 (nm a)):=HA6.out.cell 1
      have r2 : w6.cell? ⟨w.heap.size,2,none⟩ = some (.slice p (ar a).length c):=HA6.out.cell 2
      have rl : w.heap.size < w6.heap.size:=HA6.out.lt
      have s0 : w6.cell? ⟨w.heap.size + 1,0,none⟩ = some (.int .i64 (kd b)):=HB6.out.cell 0
      have s1 : w6.cell? ⟨w.heap.size + 1,1,none⟩ = some (.int .i64 (nm b)):=HB6.out.cell 1
      have s2 : w6.cell? ⟨w.heap.size + 1,2,none⟩ = some (.slice q (ar b).length d):=HB6.out.cell 2
      have sl : w.heap.size + 1 < w6.heap.size:=HB6.out.lt
      clear r0 r1 r2 rl s0 s1 s2 sl
      go_wp2_with fail
      exact bodyPost_ret (v:=.tuple #[.slice none 0 0,.int .i64 1]) (by simp [results,Try.results12,go_sem]) rfl ⟨_,HSP.out,HF6.out,rfl⟩
     | false =>
      have HPRE : Hid (Un.PreP s a b):=hid ⟨HFS.out,by rw [← HN.out];exact HOA.out,by rw [← HN.out];exact HOB.out,HDA8.out,by have:=of_decide_eq_false hb5;omega⟩
      rintro e w6 ⟨rfl,hf6⟩
      have HF6:=hid (HF5.out.trans hf6)
      have HA6:=hid (HA5.out.keep hf6 (by simp))
      have HB6:=hid (HB5.out.keep hf6 (by simp))
      clear hf6 HF5 HA5 HB5
      clear r0 r1 r2 rl s0 s1 s2 sl
      have r0 : w6.cell? ⟨w.heap.size,0,none⟩ = some (.int .i64 (kd a)):=HA6.out.cell 0
      have r1 : w6.cell? ⟨w.heap.size,1,none⟩ = some (.int .i64 (nm a)):=HA6.out.cell 1
      have r2 : w6.cell? ⟨w.heap.size,2,none⟩ = some (.slice p (ar a).length c):=HA6.out.cell 2
      have rl : w.heap.size < w6.heap.size:=HA6.out.lt
      have s0 : w6.cell? ⟨w.heap.size + 1,0,none⟩ = some (.int .i64 (kd b)):=HB6.out.cell 0
      have s1 : w6.cell? ⟨w.heap.size + 1,1,none⟩ = some (.int .i64 (nm b)):=HB6.out.cell 1
      have s2 : w6.cell? ⟨w.heap.size + 1,2,none⟩ = some (.slice q (ar b).length d):=HB6.out.cell 2
      have sl : w.heap.size + 1 < w6.heap.size:=HB6.out.lt
      go_wp2_with fail
      clear hb5
      obtain ⟨q0,hq0⟩:=Un.rsol_total (Un.uns s) s (Nat.le_refl _) HFS.out.okl HFS.out.ranked [(a,b)] (fun p hp => by rw [List.mem_singleton] at hp;subst hp;exact ⟨HPRE.out.oa,HPRE.out.ob⟩)
      have HQ:=hid hq0
      have hsv:=solves_one hq0 HFS.out.okl HPRE.out.oa HPRE.out.ob (by rw [← HN.out];omega) (.slice ps n kp) _ _ w6 (by have h1:=HV.out.keep0 HF6.out;rw [← HN.out] at h1;exact h1) (HTA.out.keep0 HF6.out) (HTB.out.keep0 HF6.out)
      refine hsv.mono ?_
      clear hsv hq0
      cases q0 with
      | none =>
       rintro e w7 ⟨hf7,rfl⟩
       have HF7:=hid (HF6.out.trans hf7)
       clear hf7
       clear r0 r1 r2 rl s0 s1 s2 sl
       go_wp2_with fail
       exact bodyPost_ret (v:=.tuple #[.slice none 0 0,.int .i64 8]) (by simp [results,Try.results12,go_sem]) rfl ⟨_,.inr ⟨HPRE.out,.inl ⟨HQ.out,rfl⟩⟩,HF7.out,rfl⟩
      | some t =>
       rintro e w7 ⟨hf7,vt,rfl,hvt⟩
       have HF7:=hid (HF6.out.trans hf7)
       have HA7:=hid (HA6.out.keep hf7 (by simp))
       have HB7:=hid (HB6.out.keep hf7 (by simp))
       have HVT:=hid hvt
       have hsp:=Un.rsol_spec HQ.out HFS.out.okl (fun p hp => by rw [List.mem_singleton] at hp;subst hp;exact ⟨HPRE.out.oa,HPRE.out.ob⟩)
       have htn : t.length = n:=by rw [HN.out];exact hsp.2.1
       have hto : Okl t:=hsp.1
       have htr : Ranked t:=Un.rsol_ranked HQ.out HFS.out.okl HFS.out.ranked (fun p hp => by rw [List.mem_singleton] at hp;subst hp;exact ⟨HPRE.out.oa,HPRE.out.ob⟩) t rfl
       have hts : ∀ x ∈ t,size x ≤ 90000:=Un.rsol_size HQ.out HSZ.out (fun p hp => by rw [List.mem_singleton] at hp;subst hp;exact ⟨HZA.out,HZB.out⟩) t rfl
       obtain ⟨pt,kt,rfl⟩:=hvt.shape
       obtain ⟨fb2,hfb2⟩ : ∃ fb2 : Bool,fb2 = true ↔ FormedP t:=⟨decide (FormedP t),by simp⟩
       have hfo:=formed_any t (.slice pt t.length kt) w7 HVT.out (by omega) fb2 hfb2
       have hoa : over t.length a = true:=by rw [htn];exact HOA.out
       obtain ⟨za,hza⟩:=Un.Res.ex hto.vin htr (t:=a) (Un.vin_of_over _ _ hoa)
       obtain ⟨rk,hk,hlt⟩:=htr.small
       have hde : ∀ wx,Fr [] w7 wx → Calls Try.prog 44 #[.slice pt t.length kt,.agg #[.int .i64 (kd a),.int .i64 (nm a),.slice p (ar a).length c],.int .i64 ((n : Int) + 1),.int .i64 8] wx (NumP (deepN (depth za) 8) wx):=fun wx hf =>
        deep_any (fun _ => True) t (.slice pt t.length kt) hto rk hk hza hoa ((n : Int) + 1) 8 (fun u hu _ => by have:=hlt u hu;omega) (by omega) (by omega) (by omega) (by omega) _ wx (HVT.out.keep0 hf) (HTA.out.keep0 (HF7.out.trans hf))
       have hle : ∀ wx,Fr [] w7 wx → Calls Try.prog 45 #[.slice pt t.length kt] wx (LeastP t wx):=fun wx hf => least_any t _ wx (HVT.out.keep0 hf) hto htr (by omega) (fun x hx => by have:=hts x hx;omega)
       rw [htn] at hfo hde hle
       have LIM : Hid (¬ (FormedP t ∧ depth za ≤ 8) → Un.RSpec s a b (.error 2)):=hid (fun h => .inr ⟨HPRE.out,.inr ⟨t,HQ.out,za,hza,.inl ⟨h,rfl⟩⟩⟩)
       have GOOD : Hid (FormedP t → depth za ≤ 8 → ∀ fr L,Un.Least t fr L → Un.RSpec s a b (.ok L)):=hid (fun h1 h2 fr L h3 => .inr ⟨HPRE.out,.inr ⟨t,HQ.out,za,hza,.inr ⟨h1,h2,fr,L,h3,rfl⟩⟩⟩)
       have HFO7:=hid hfo
       have HDE7:=hid hde
       have HLE7:=hid hle
       have HFB2:=hid hfb2
       rw [htn]
       clear hf7 hvt hsp hto htr hts hfo hde hle hfb2 hoa hza hk hlt htn
       clear r0 r1 r2 rl s0 s1 s2 sl
       have r0 : w7.cell? ⟨w.heap.size,0,none⟩ = some (.int .i64 (kd a)):=HA7.out.cell 0
       have r1 : w7.cell? ⟨w.heap.size,1,none⟩ = some (.int .i64 (nm a)):=HA7.out.cell 1
       have r2 : w7.cell? ⟨w.heap.size,2,none⟩ = some (.slice p (ar a).length c):=HA7.out.cell 2
       have rl : w.heap.size < w7.heap.size:=HA7.out.lt
       have s0 : w7.cell? ⟨w.heap.size + 1,0,none⟩ = some (.int .i64 (kd b)):=HB7.out.cell 0
       have s1 : w7.cell? ⟨w.heap.size + 1,1,none⟩ = some (.int .i64 (nm b)):=HB7.out.cell 1
       have s2 : w7.cell? ⟨w.heap.size + 1,2,none⟩ = some (.slice q (ar b).length d):=HB7.out.cell 2
       have sl : w.heap.size + 1 < w7.heap.size:=HB7.out.lt
       go_wp2_with fail
       refine HFO7.out.mono ?_
       cases hb6 : fb2 with
       | false =>
        have HSP:=hid (LIM.out (fun h => by have h1:=HFB2.out.2 h.1;rw [hb6] at h1;cases h1))
        clear hb6
        rintro e w8 ⟨rfl,hf8⟩
        have HF8:=hid (HF7.out.trans hf8)
        have HA8:=hid (HA7.out.keep hf8 (by simp))
        have HB8:=hid (HB7.out.keep hf8 (by simp))
        clear hf8 HF7 HA7 HB7
        clear r0 r1 r2 rl s0 s1 s2 sl
        go_wp2_with fail
        exact bodyPost_ret (v:=.tuple #[.slice none 0 0,.int .i64 2]) (by simp [results,Try.results12,go_sem]) rfl ⟨_,HSP.out,HF8.out,rfl⟩
       | true =>
        have HFT:=hid (HFB2.out.1 hb6)
        clear hb6
        rintro e w8 ⟨rfl,hf8⟩
        have HF8:=hid (HF7.out.trans hf8)
        have HG8:=hid hf8
        have HA8:=hid (HA7.out.keep hf8 (by simp))
        have HB8:=hid (HB7.out.keep hf8 (by simp))
        clear hf8
        clear r0 r1 r2 rl s0 s1 s2 sl
        have r0 : w8.cell? ⟨w.heap.size,0,none⟩ = some (.int .i64 (kd a)):=HA8.out.cell 0
        have r1 : w8.cell? ⟨w.heap.size,1,none⟩ = some (.int .i64 (nm a)):=HA8.out.cell 1
        have r2 : w8.cell? ⟨w.heap.size,2,none⟩ = some (.slice p (ar a).length c):=HA8.out.cell 2
        have rl : w.heap.size < w8.heap.size:=HA8.out.lt
        have s0 : w8.cell? ⟨w.heap.size + 1,0,none⟩ = some (.int .i64 (kd b)):=HB8.out.cell 0
        have s1 : w8.cell? ⟨w.heap.size + 1,1,none⟩ = some (.int .i64 (nm b)):=HB8.out.cell 1
        have s2 : w8.cell? ⟨w.heap.size + 1,2,none⟩ = some (.slice q (ar b).length d):=HB8.out.cell 2
        have sl : w.heap.size + 1 < w8.heap.size:=HB8.out.lt
        go_wp2_with fail
        refine (HDE7.out w8 HG8.out).mono ?_
        by_cases hle : depth za ≤ 8
        ·have hdn : deepN (depth za) 8 = depth za:=by unfold deepN;rw [if_pos (by omega)]
         rw [hdn]
         have hdp:=Un.depth_pos za
         obtain ⟨Y,hY⟩ : ∃ Y,Y = depth za:=⟨_,rfl⟩
         have HLE8:=hid hle
         rw [← hY] at hdp ⊢
         have ez : ((Y : Int) == 0) = false:=by simp;omega
         clear hdn hY hle
         rintro e w9 ⟨rfl,hf9⟩
         have HF9:=hid (HF8.out.trans hf9)
         have HG9:=hid (HG8.out.trans hf9)
         clear hf9 r0 r1 r2 rl s0 s1 s2 sl
         go_wp2_with fail
         refine (HLE7.out w9 HG9.out).mono ?_
         rintro e w10 ⟨fr,L,hL,vl,rfl,hvl,hf10⟩
         have HL:=hid (GOOD.out HFT.out HLE8.out fr L hL)
         have HVL:=hid hvl
         have HF10:=hid (HF9.out.trans hf10)
         clear hL hvl hf10
         go_wp2_with fail
         exact bodyPost_ret (v:=.tuple #[vl,.int .i64 0]) (by simp [results,Try.results12,go_sem]) rfl ⟨_,HL.out,HF10.out,vl,rfl,HVL.out⟩
        ·have hdn : deepN (depth za) 8 = 0:=by unfold deepN;rw [if_neg (by omega)]
         rw [hdn]
         have HSP:=hid (LIM.out (fun h => hle h.2))
         clear hdn
         rintro e w9 ⟨rfl,hf9⟩
         have HF9:=hid (HF8.out.trans hf9)
         clear hf9
         clear r0 r1 r2 rl s0 s1 s2 sl
         go_wp2_with fail
         exact bodyPost_ret (v:=.tuple #[.slice none 0 0,.int .i64 2]) (by simp [results,Try.results12,go_sem]) rfl ⟨_,HSP.out,HF9.out,rfl⟩
end Go.Proofs.Ytcdlnhfgehhkcaa
