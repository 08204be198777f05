/- part of the proof -/
import Derived.Test.YtcdlnhfgehhkcaaQ05
import Derived.Test.YtcdlnhfgehhkcaaQ11
import Derived.Laws.EntriesVeiled
set_option linter.unusedVariables false
set_option linter.unusedSimpArgs false
set_option linter.unusedSectionVars false
namespace Go.Proofs.Ytcdlnhfgehhkcaa
open Go.RowKit
open Un (kd nm ar)
def WfP (t : Ty) : Prop:=∀ i ∈ Un.pars t,(Lit.int .i64 i).wf = true
theorem parss_mem {i : Int} : ∀ {l : List Ty},i ∈ Un.parss l → ∃ a ∈ l,i ∈ Un.pars a
 | [],h => by rw [Un.parss] at h;exact (List.not_mem_nil h).elim
 | a :: r,h => by
  rw [Un.parss,List.mem_append] at h
  rcases h with h | h
  ·exact ⟨a,by simp,h⟩
  ·obtain ⟨b,hb,k⟩:=parss_mem h
   exact ⟨b,by simp [hb],k⟩
theorem WfP.mk {k i : Int} {l : List Ty} (hi : (Lit.int .i64 i).wf = true) (hl : ∀ a ∈ l,WfP a) : WfP (.mk k i l):=by
 intro j hj
 rw [Un.pars] at hj
 split at hj
 ·rw [List.mem_singleton.1 hj];exact hi
 ·obtain ⟨a,ha,h⟩:=parss_mem hj
  exact hl a ha j h
section
variable {H : Type} {enc : TypeId × Value → H} {P : Program} {w : World} {base : Nat} {sp : Nat → Bool} {held : Bool}
theorem sl_ofP {α : Type} {f : α → Q} (G : α → Prop) {E s : Nat} {t e : TypeId} (hs0 : 0 < s) (ht : P.underlying t = some (.slice e)) (hs : P.cellsOf e = s) {fuel : Nat} {cs : List Value} {x : DataW H × List MemPlace}
  (h : DataW.trod enc P w base sp held fuel t cs = some x) (ih : ∀ n,n < fuel → ∀ c y,DataW.trod enc P w base sp held n e c = some y → ∃ a,G a ∧ InN w (fun _ => True) (f a) c) :
  ∃ l : List α,(∀ a ∈ l,G a) ∧ InN w (fun _ => True) (.sl E s l.length (rowsQ f l) .nil) cs:=by
 rcases DataW.trod_slice ht h with ⟨rfl,_⟩ | ⟨a,len,cap,elems,rest,n,rfl,rfl,_,_,hl,hm,hlen,hel,_⟩
 ·exact ⟨[],fun _ h => (List.not_mem_nil h).elim,InN.slNil _ _⟩
 ·rw [hs] at hel
  have key : ∀ k,k ≤ len → ∃ (l : List α) (xs : List Value),(∀ a ∈ l,G a) ∧ l.length = k ∧ xs.length = k * s ∧ (∀ j,j < k * s → w.cell? (a.add j) = xs[j]?) ∧ InN w (fun _ => True) (rowsQ f l) xs:=by
   intro k
   induction k with
   | zero => intro _;exact ⟨[],[],fun _ h => (List.not_mem_nil h).elim,rfl,by simp,fun j hj => by simp at hj,by rw [rowsQ];exact InN.mk_nil _ _⟩
   | succ k ihk =>
    intro hk
    obtain ⟨l,xs,hG,h1,h2,h3,h4⟩:=ihk (by omega)
    have hE:=hel k (by omega)
    have hsome : elems[k]? = some (elems[k]'(by omega)):=List.getElem?_eq_getElem _
    rw [hsome] at hE
    simp only [Option.bind_eq_some_iff] at hE
    obtain ⟨c,hc,hy⟩:=hE
    obtain ⟨hc1,hc2⟩:=cells_ofN hc
    obtain ⟨b,hGb,hb⟩:=ih n (by omega) c _ hy
    refine ⟨l ++ [b],xs ++ c,fun a ha => ?_,by simp [h1],by simp [h2,hc1,Nat.succ_mul],fun j hj => ?_,by rw [rowsQ_snoc];exact InN.app h4 hb⟩
    ·rcases List.mem_append.1 ha with ha | ha
     ·exact hG a ha
     ·rw [List.mem_singleton.1 ha];exact hGb
    by_cases hj' : j < k * s
    ·rw [h3 j hj',List.getElem?_append_left (by omega)]
    ·rw [Nat.succ_mul] at hj
     rw [List.getElem?_append_right (by omega),h2]
     have:=hc2 (j - k * s) (by omega)
     rw [add_addN] at this
     rw [← this]
     congr 2
     omega
  obtain ⟨l,xs,hG,h1,h2,h3,h4⟩:=key len (Nat.le_refl _)
  refine ⟨l,hG,?_⟩
  subst h1
  rcases Nat.eq_zero_or_pos l.length with h0 | h0
  ·have:=List.eq_nil_of_length_eq_zero h0
   subst this
   exact InN.slNil _ _
  ·have hps : 0 < l.length * s:=Nat.mul_pos h0 hs0
   have hc0:=h3 0 hps
   rw [List.getElem?_eq_getElem (by omega)] at hc0
   obtain ⟨hsp,hbl⟩:=spot_of_cell hc0
   obtain ⟨b,o,q⟩:=a
   have e0 : (⟨b,o,q⟩ : Addr).add 0 = ⟨b,o,q⟩:=by unfold Addr.add;simp
   rw [e0] at hsp hbl
   simp only at hsp hbl
   subst hsp
   rw [InN]
   refine ⟨_,_,rfl,.inr ⟨b,o,cap,xs,rfl,h0,hl,hm,trivial,hbl,h2,fun j hj => ?_,h4⟩,InN.mk_nil _ _⟩
   have h5:=h3 j hj
   have e : (⟨b,o,none⟩ : Addr).add j = ⟨b,o + j,none⟩:=by
    unfold Addr.add
    split
    ·rename_i h;subst h;rfl
    ·rfl
   rwa [e] at h5
set_option maxRecDepth 100000 in
set_option maxHeartbeats 1600000 in
theorem ty_ofP : ∀ (M fuel : Nat),fuel < M → ∀ (cs : List Value) (y : DataW H × List MemPlace),DataW.trod enc Try.prog w base sp held fuel 24 cs = some y → ∃ t : Ty,WfP t ∧ TyV w (fun _ => True) t cs:=by
 intro M
 induction M with
 | zero => intro fuel hN;omega
 | succ M ih =>
  intro fuel hN cs y h
  obtain ⟨xs,n,rfl,_,hl,hlen,hf⟩:=DataW.trod_struct Try.underlying24 h
  match xs,hlen with
  | [y0,y1,y2],_ =>
   have h0 : DataW.trod enc Try.prog w base sp held n 3 ((cs.drop 0).take (Try.prog.cellsOf 3)) = some y0:=hf 0 _ rfl
   rw [cells_intN] at h0
   obtain ⟨k,k0,_⟩:=int_ofN Try.underlying3 h0
   have h1 : DataW.trod enc Try.prog w base sp held n 3 ((cs.drop 1).take (Try.prog.cellsOf 3)) = some y1:=hf 1 _ rfl
   rw [cells_intN] at h1
   obtain ⟨i,k1,hwi⟩:=int_ofN Try.underlying3 h1
   have h2 : DataW.trod enc Try.prog w base sp held n 22 ((cs.drop 2).take (Try.prog.cellsOf 22)) = some y2:=hf 2 _ rfl
   rw [cells_tysN] at h2
   obtain ⟨l,hG,k2⟩:=sl_ofP WfP (f:=qTy) (E:=24) (by decide) Try.underlying22 cells_tyN h2 (fun m hm c y hy => ih m (by omega) c y hy)
   have hl3 : cs.length = 3:=by rw [hl];exact cells_tyN
   match cs,hl3 with
   | [x0,x1,x2],_ =>
    simp at k0 k1
    subst k0 k1
    exact ⟨.mk k i l,WfP.mk hwi hG,TyV.mk (by unfold TysV;simpa using k2)⟩
end
set_option maxRecDepth 100000 in
theorem ty_argP {H : Type} {enc : TypeId × Value → H} {W : World} {b0 : Nat} {v : Value} {d : DataW H} {ps : List MemPlace} (hv : Value.okWide Try.prog W .any b0 24 v) (h : DataW.Trod enc Try.prog W 0 (fun _ => true) true 24 v d ps) :
  ∃ (t : Ty) (cs : List Value),WfP t ∧ v = .agg cs.toArray ∧ TyV W (fun _ => True) t cs:=by
 obtain ⟨cs,rfl,_⟩:=Go.WideShapes.okWide_struct Try.underlying24 hv
 obtain ⟨fuel,hf⟩:=h
 obtain ⟨t,hw,ht⟩:=ty_ofP (fuel + 1) fuel (by omega) _ _ hf
 exact ⟨t,cs.toList,hw,by simp,by simpa [Value.cells] using ht⟩
open Go.RowKit Go.Lib
open Un (kd nm ar size sizes same mt pars)
theorem eqS_inv {σ : Type} {step : σ → Ty → Ty → σ × Bool} (P : σ → Prop) : ∀ (l l' : List Ty) (s : σ),(∀ a ∈ l,∀ b ∈ l',∀ s,P s → P (step s a b).1) → P s → P (eqS step s l l').1
 | [],_,s,_,hs => by rw [eqS];exact hs;intro _ _ _ _ h;cases h
 | _ :: _,[],s,_,hs => by rw [eqS];exact hs;intro _ _ _ _ _ h;cases h
 | a :: r,b :: r',s,h,hs => by
  rw [eqS]
  have h1:=h a (by simp) b (by simp) s hs
  split
  ·exact eqS_inv P r r' _ (fun x hx y hy => h x (by simp [hx]) y (by simp [hy])) h1
  ·exact h1
theorem eqS_inv2 {σ : Type} {step : σ → Ty → Ty → σ × Bool} (P : σ → Prop) : ∀ (l l' : List Ty) (s : σ),(∀ a ∈ l,∀ b ∈ l',∀ s,P s → (step s a b).2 = true → P (step s a b).1) → P s → (eqS step s l l').2 = true → P (eqS step s l l').1
 | [],_,s,_,hs => by rw [eqS];intro _;exact hs;intro _ _ _ _ h;cases h
 | _ :: _,[],s,_,hs => by rw [eqS];intro _;exact hs;intro _ _ _ _ _ h;cases h
 | a :: r,b :: r',s,h,hs => by
  rw [eqS]
  split
  ·rename_i h2
   exact eqS_inv2 P r r' _ (fun x hx y hy => h x (by simp [hx]) y (by simp [hy])) (h a (by simp) b (by simp) s hs h2)
  ·intro h3;cases h3
theorem mt_found (n : Int) (M : Nat) : ∀ (z : Nat) (a : Ty),size a ≤ z → ∀ (b : Ty),size b ≤ M → ∀ (s : Int → Option Ty),(∀ i u,s i = some u → size u ≤ M) → ∀ i u,(mt n a b s).1 i = some u → size u ≤ M:=by
 intro z
 induction z with
 | zero => intro a h;exact absurd (Un.size_pos a) (by omega)
 | succ z ih =>
  intro a hz b hb s hs
  rw [Un.mt_eq]
  split
  ·cases h : s (nm a) with
   | some e => exact hs
   | none =>
    intro i u hu
    simp only at hu
    split at hu
    ·simp only [Option.some.injEq] at hu;subst hu;exact hb
    ·exact hs i u hu
  ·split
   ·unfold eqF
    split
    ·exact eqS_inv (fun (s : Int → Option Ty) => ∀ i u,s i = some u → size u ≤ M) (ar a) (ar b) s (fun x hx y hy s hs => ih x (by have:=size_ar hx;omega) y (by have:=size_ar hy;omega) s hs) hs
    ·exact hs
   ·exact hs
theorem mt_keys (n : Int) : ∀ (z : Nat) (a : Ty),size a ≤ z → ∀ (b : Ty) (s : Int → Option Ty),(∀ i,(s i).isSome = true → 0 ≤ i ∧ i < n) → (mt n a b s).2 = true → ∀ i,((mt n a b s).1 i).isSome = true → 0 ≤ i ∧ i < n:=by
 intro z
 induction z with
 | zero => intro a h;exact absurd (Un.size_pos a) (by omega)
 | succ z ih =>
  intro a hz b s hs
  rw [Un.mt_eq]
  split
  ·cases h : s (nm a) with
   | some e => intro _;exact hs
   | none =>
    simp only [Bool.and_eq_true,decide_eq_true_eq]
    intro h2 i hi
    split at hi
    ·rename_i e;subst e;exact h2
    ·exact hs i hi
  ·split
   ·unfold eqF
    split
    ·exact eqS_inv2 (fun (s : Int → Option Ty) => ∀ i,(s i).isSome = true → 0 ≤ i ∧ i < n) (ar a) (ar b) s (fun x hx y hy s hs => ih x (by have:=size_ar hx;omega) y s hs) hs
    ·intro h;cases h
   ·intro h;cases h
def Un.matched (n : Nat) (a b : Ty) : Option (List Ty):=if (mt (n : Int) a b (fun _ => none)).2 then some ((List.range n).map fun (i : Nat) => ((mt (n : Int) a b (fun _ => none)).1 (i : Int)).getD Un.zero) else none
def MatchP (r : Option (List Ty)) (w : World) (e : Ending) (w' : World) : Prop:=
 Fr [] w w' ∧ match r with
 | none => e = .returned (.tuple #[.slice none 0 0,.bool false])
 | some l => ∃ v,e = .returned (.tuple #[v,.bool true]) ∧ TysV w' (fun k => w.heap.size ≤ k) l v
theorem run_makeMatch (w : World) (a b c : Value) : (Instr.makeFunc (.func 46) #[] #[a,b,c]).run Try.prog w = .ok (.func (.func 46) #[] #[a,b,c]) w:=rfl
def mkTyV (q : Int × Int × Option Addr × Nat × Nat) : Value:=.agg #[.int .i64 q.1,.int .i64 q.2.1,.slice q.2.2.1 q.2.2.2.1 q.2.2.2.2]
theorem invK_int (key : Value) (kl : Lit) (h : keyOf Try.prog 3 key = some kl) : ∃ x,key = Value.int .i64 x:=by
 obtain ⟨x,h1,_⟩:=Maps.keyOf_int_inv Try.underlying3 h
 exact ⟨x,h1⟩
theorem invV_ty (v : Value) (y : DataW Value × List MemPlace) (h : tyElem v = some y) : ∃ q,v = mkTyV q:=by
 obtain ⟨⟨a,b,p,n,c,rfl⟩,_⟩:=tyElem_inv h
 exact ⟨(a,b,p,n,c),rfl⟩
theorem Fr.grown1 {w w' : World} {X : List Nat} {row : Option Nat} (h : Fr X w w') (hX : ∀ k ∈ X,row = some k) : w.grownBy w' row:=
 ⟨h.os,h.tape,h.output,h.size,fun k hk hne => h.block k hk (fun hx => hne (hX k hx).symm)⟩
theorem entry_ty {w : World} {N : Nat → Prop} {D : DataW Value} {f : Int → Option Ty} (hh : ∀ i : Int,(Lit.int .i64 i).wf = true → HoldsTy w N D i (f i)) {x : Int} {q : Int × Int × Option Addr × Nat × Nat} {kl : Lit} {y : DataW Value × List MemPlace}
  (hkey : keyOf Try.prog 3 (.int .i64 x) = some kl) (hel : tyElem (mkTyV q) = some y) (hat : ∀ zd,D.atKey kl zd = y.1) : kl = .int .i64 x ∧ ∃ u p c,f x = some u ∧ q = (kd u,nm u,p,(ar u).length,c) ∧ TyV w N u [.int .i64 (kd u),.int .i64 (nm u),.slice p (ar u).length c]:=by
 obtain ⟨x',h1,rfl,hw⟩:=Maps.keyOf_int_inv Try.underlying3 hkey
 cases h1
 refine ⟨rfl,?_⟩
 have h2:=(tyElem_inv hel).2
 have h3:=hh x hw
 subst h2
 simp only at hat
 revert h3
 cases hf : f x with
 | none =>
  intro h3
  have h4:=hat .nil
  rw [Maps.atKey_of_not_has h3] at h4
  cases h4
 | some u =>
  rintro ⟨_,cs,h4,h5⟩
  have h6:=hat .nil
  rw [h4] at h6
  simp only [DataW.held.injEq] at h6
  obtain ⟨p,c,rfl,_⟩:=h5.shape
  refine ⟨u,p,c,rfl,?_,h5⟩
  obtain ⟨q1,q2,q3,q4,q5⟩:=q
  simp [mkTyV] at h6
  obtain ⟨e1,e2,e3,e4,e5⟩:=h6
  rw [e1,e2,e3,e4,e5]
set_option maxRecDepth 100000 in
set_option maxHeartbeats 3200000 in
theorem match_any (N : Nat → Prop) (a b : Ty) (n : Nat) (hn : n ≤ 4) (hs : size a ≤ 100000) (hsb : size b ≤ 100000) (hpar : ∀ i ∈ pars a,(Lit.int .i64 i).wf = true) (hpl : (pars a).length ≤ 100000) (cs ds : List Value) (w : World) (ha : TyV w N a cs) (hb : TyV w N b ds) :
  Calls Try.prog 13 #[.agg cs.toArray,.agg ds.toArray,.int .i64 n] w (MatchP (Un.matched n a b) w):=by
 have HA:=hid (TyV.weak (N':=fun k => k < w.heap.size) ha (fun k hk _ => hk))
 have HB:=hid (TyV.weak (N':=fun k => k < w.heap.size) hb (fun k hk _ => hk))
 obtain ⟨p,c,rfl,_⟩:=ha.shape
 obtain ⟨p',c',rfl,_⟩:=hb.shape
 have hE : ∀ (args : Array Value) (w : World),(callFunc 46 args).run Try.prog w = .ok (.enter 46 args) w:=enters_match1
 have hmm:=@run_makeMap Try.prog
 have hmf:=run_makeMatch
 have hd1 : decide ((n : Int) < 0) = false:=by simp
 have hd2 : decide ((4 : Int) < (n : Int)) = false:=by simp;omega
 obtain ⟨w1,hw1⟩ : ∃ w1,w1 = (((((w.alloc (.cells #[.int .i64 (kd a),.int .i64 (nm a),.slice p (ar a).length c] 24)).alloc (.cells #[.int .i64 (kd b),.int .i64 (nm b),.slice p' (ar b).length c'] 24)).alloc (.cells #[.int .i64 n] 3)).alloc (.map #[] 0)).alloc (.cells #[.map (some (w.heap.size + 1 + 1 + 1))] 71)).alloc (.cells #[.func (.func 46) #[] #[.pointer (some ⟨w.heap.size + 1 + 1 + 1 + 1 + 1,0,none⟩),.pointer (some ⟨w.heap.size + 1 + 1 + 1 + 1,0,none⟩),.pointer (some ⟨w.heap.size + 1 + 1,0,none⟩)]] 42):=⟨_,rfl⟩
 have HF1 : Hid (Fr [] w w1):=hid (by rw [hw1];exact ((((((Fr.refl _ _).alloc _).alloc _).alloc _).alloc _).alloc _).alloc _)
 have HI1 : Hid (FoundI (fun k => k < w.heap.size) (pars a) n (w.heap.size + 1 + 1 + 1) (w.heap.size + 1 + 1 + 1 + 1 + 1) (w.heap.size + 1 + 1 + 1 + 1) (w.heap.size + 1 + 1) (fun _ => none) w1):=hid (by
  have h1:=MapTy.made (((w.alloc (.cells #[.int .i64 (kd a),.int .i64 (nm a),.slice p (ar a).length c] 24)).alloc (.cells #[.int .i64 (kd b),.int .i64 (nm b),.slice p' (ar b).length c'] 24)).alloc (.cells #[.int .i64 n] 3)) (fun k => k < w.heap.size)
  rw [show (((w.alloc (.cells #[.int .i64 (kd a),.int .i64 (nm a),.slice p (ar a).length c] 24)).alloc (.cells #[.int .i64 (kd b),.int .i64 (nm b),.slice p' (ar b).length c'] 24)).alloc (.cells #[.int .i64 n] 3)).heap.size = w.heap.size + 1 + 1 + 1 from by simp] at h1
  refine ⟨?_,fun i hi => by simp at hi,?_,?_,?_,by omega⟩
  ·rw [hw1]
   exact (h1.keep (X:=[]) (((Fr.refl _ _).alloc _).alloc _) (by simp) (by simp)).mono (Nat.zero_le _)
  ·rw [hw1];exact Blk.new_at (by simp)
  ·rw [hw1];exact (Blk.new_at (by simp)).alloc _
  ·rw [hw1];exact (((Blk.new_at (by simp)).alloc _).alloc _).alloc _)
 clear ha hb
 go_enter Try.func13,Try.ntmps13
 go_wp2_with fail
 rw [← hw1]
 clear hw1
 refine (match1_any (fun k => k < w.heap.size) (pars a) n _ _ _ _ (by omega) hpl (size a) a (Nat.le_refl _) (fun i hi => ⟨hpar i hi,hi⟩) b (fun _ => none) _ _ w1 HI1.out (HA.out.keep0 HF1.out) (HB.out.keep0 HF1.out)).mono ?_
 rintro e w2 ⟨rfl,hf2,hI2⟩
 have HF2:=hid (((HF1.out.nil [w.heap.size + 1 + 1 + 1]).trans hf2).drop (by omega))
 have HI2:=hid hI2
 clear hf2 hI2
 have HMD : Hid (Un.matched n a b = if (mt (n : Int) a b (fun _ => none)).2 then some ((List.range n).map fun (i : Nat) => ((mt (n : Int) a b (fun _ => none)).1 (i : Int)).getD Un.zero) else none):=hid rfl
 have HFO:=hid (mt_found n 100000 (size a) a (Nat.le_refl _) b hsb (fun _ => none) (fun i u h => by cases h))
 have HKY:=hid (mt_keys n (size a) a (Nat.le_refl _) b (fun _ => none) (fun i h => by cases h))
 obtain ⟨r,hr⟩ : ∃ r,r = mt (n : Int) a b (fun _ => none):=⟨_,rfl⟩
 rw [← hr] at HI2 HMD HFO HKY ⊢
 cases h2 : r.2 with
 | false =>
  have H2:=hid h2
  go_wp2_with fail
  refine bodyPost_ret (v:=.tuple #[.slice none 0 0,.bool false]) (by simp [results,Try.results13,go_sem]) rfl ?_
  unfold MatchP
  rw [HMD.out,H2.out]
  exact ⟨HF2.out,rfl⟩
 | true =>
  have HK2:=hid (HKY.out h2)
  have HMD2 : Hid (Un.matched n a b = some ((List.range n).map fun (i : Nat) => (r.1 (i : Int)).getD Un.zero)):=hid (by rw [HMD.out,h2];rfl)
  obtain ⟨j0,hj0,jz0,jz1,jz2⟩:=info_parts info_ty
  have hms : ∀ w1 : World,(Instr.makeSlice 22 (.int .i64 (n : Int)) (.int .i64 (n : Int))).run Try.prog w1 = .ok (.slice (some ⟨w1.heap.size,0,none⟩) n n) (w1.alloc (.cells (madeCells #[.int .i64 0,.int .i64 0,.slice none 0 0] (n * 3)) 24)):=fun w1 => by
   have:=run_makeSlice w1 22 24 j0 _ Try.underlying22 hj0 jz0 .i64 .i64 n n (by omega) (Int.le_refl _) (by rw [jz1];simp;omega) (by rw [jz2];omega) (by omega)
   rw [jz1] at this
   simpa [Value.cells] using this
  obtain ⟨D,hD,hh⟩:=HI2.out.map
  have HHH:=hid hh
  have HDD:=hid hD
  have s0 : w2.cell? ⟨w.heap.size + 1 + 1,0,none⟩ = some (.int .i64 n):=HI2.out.cPar.cell 0
  have s1 : w2.cell? ⟨w.heap.size + 1 + 1 + 1 + 1,0,none⟩ = some (.map (some (w.heap.size + 1 + 1 + 1))):=HI2.out.cMap.cell 0
  have l0 : w.heap.size + 1 + 1 < w2.heap.size:=HI2.out.cPar.lt
  have l1 : w.heap.size + 1 + 1 + 1 + 1 < w2.heap.size:=HI2.out.cMap.lt
  have l3 : w.heap.size + 1 + 1 + 1 < w2.heap.size:=hD.lt
  have l2 : w.heap.size + 1 + 1 + 1 + 1 < w2.heap.size + 1:=by omega
  have HAR : Hid (ArrV (w2.alloc (.cells (madeCells #[.int .i64 0,.int .i64 0,.slice none 0 0] (n * 3)) 24)) (fun k => w2.heap.size + 2 ≤ k) w2.heap.size (List.replicate n Un.zero)):=hid (ArrV.made _ _ _)
  have e1 : (w2.alloc (.cells (madeCells #[.int .i64 0,.int .i64 0,.slice none 0 0] (n * 3)) 24)).heap.size = w2.heap.size + 1:=by simp
  clear hh hD hj0 jz0 jz1 jz2 hmm hmf
  go_wp2_with (at_range;refine wpList_range_own _ rfl _ 71 rfl 3 24 keyed_int Try.underlying71 _ (w.heap.size + 1 + 1 + 1) (pars a).length _ rfl (HDD.out.alloc _) ?_;intro w3 hrg0 hg0 hs0)
  go_frame
  rw [e1] at hrg0 hs0 ⊢
  have HR0:=hid hrg0
  have HF3 : Hid (Fr [] w2 w3):=hid (((Fr.refl [] w2).alloc (.cells (madeCells #[.int .i64 0,.int .i64 0,.slice none 0 0] (n * 3)) 24)).grown hg0 (fun k hk => by cases hk))
  have HA3:=hid (HAR.out.keep0 ((Fr.refl [] _).grown hg0 (fun k hk => by cases hk)))
  have HS0:=hid hs0
  have HZ2:=hid HF2.out.size
  clear hrg0 hg0 hs0 s0 s1 l0 l1 l2 l3 e1 HAR hms
  go_loopw [30] (fun _ wr => ∃ (left : Lit → Bool) (cnt : Nat) (out : List Ty),Hid (wr.ranges Try.prog 3 tyElem (w.heap.size + 1 + 1 + 1) (w2.heap.size + 1) (pars a).length D left cnt) ∧ Hid (ArrV wr (fun k => w2.heap.size + 2 ≤ k) w2.heap.size out) ∧ out.length = n ∧ Hid (∀ i : Nat,i < n → out[i]? = some (if left (.int .i64 i) then Un.zero else (r.1 (i : Int)).getD Un.zero)) ∧ Hid (Fr [] w2 wr)) (fun _ wr => wr.rangeLeft (w.heap.size + 1 + 1 + 1) (w2.heap.size + 1))
  case atStart =>
   refine ⟨_,_,_,HR0,HA3,by simp,hid (fun i hi => ?_),HF3⟩
   rw [List.getElem?_eq_getElem (by simpa using hi),List.getElem_replicate]
   congr 1
   have h1:=HHH.out i (WalkArith.wf_i64 (by omega))
   split
   ·rfl
   ·rename_i h3
    revert h1
    cases r.1 (i : Int) with
    | none => intro _;rfl
    | some u => intro h1;exact absurd h1.1 h3
  case round =>
   obtain ⟨left,cnt,out,HRG,HAR,hlen,HOUT,HFR⟩:=hrel
   go_wp2_with (at_next;refine wpList_next_ranges _ rfl _ rfl 3 keyed_int tyElem (Value.int .i64) mkTyV invK_int invV_ty (w.heap.size + 1 + 1 + 1) (w2.heap.size + 1) (pars a).length D left cnt rfl HRG.out ?_ ?_)
   ·intro hc0 hl0
    go_wp2_with fail
    refine bodyPost_ret (v:=.tuple #[.slice (some ⟨w2.heap.size,0,none⟩) n n,.bool true]) (by simp [results,Try.results13,go_sem]) rfl ?_
    unfold MatchP
    rw [HMD2.out]
    refine ⟨HF2.out.trans HFR.out,_,rfl,?_⟩
    have hl : out = (List.range n).map fun (i : Nat) => (r.1 (i : Int)).getD Un.zero:=by
     refine List.ext_getElem? fun i => ?_
     by_cases hi : i < n
     ·rw [HOUT.out i hi,hl0]
      simp [hi]
     ·rw [List.getElem?_eq_none (by omega),List.getElem?_eq_none (by simp;omega)]
    rw [← hl]
    have h3:=HAR.out.tysV (N':=fun k => w.heap.size ≤ k) (by omega) (fun k _ hk => by have:=HZ2.out;omega) HZ2.out
    rw [hlen] at h3
    exact h3
   ·intro x z1 z2 z3 z4 z5 kl y1 y2 w4 cnt4 hkey hlx hel hat hrg4 hlt4 hg4 hs4 hen
    obtain ⟨rfl,u,p5,c5,hfu,hq,hT⟩:=entry_ty (y:=(y1,y2)) HHH.out hkey hel hat
    simp only [Prod.mk.injEq] at hq
    obtain ⟨rfl,rfl,rfl,rfl,rfl⟩:=hq
    obtain ⟨hx0,hx1⟩:=HK2.out x (by rw [hfu];rfl)
    obtain ⟨j,rfl⟩ : ∃ j : Nat,x = j:=⟨x.toNat,by omega⟩
    have hjn : j < n:=by omega
    have hd3 : decide (j < n) = true:=by simpa using hjn
    have hfr4 : Fr [w2.heap.size + 1] wr w4:=(Fr.refl _ wr).grown hg4 (fun k hk => by cases hk;exact .inl (by simp))
    have hF4 : Fr [] w2 w4:=((HFR.out.nil [w2.heap.size + 1]).trans hfr4).drop (by omega)
    have hA4:=HAR.out.keep hfr4 (by simp) (fun k hk => by simp only [List.mem_singleton] at hk;omega)
    have HT4:=hid (hT.keep0 hF4)
    have HF4:=hid hF4
    have HA4:=hid hA4
    have HRG4:=hid hrg4
    have HFU:=hid hfu
    have HSU:=hid (HFO.out _ _ hfu)
    unfold mkTyV at hen ⊢
    simp only at hen ⊢
    clear hkey hel hat hT hfr4 hF4 hA4 hrg4 hfu hg4 hx0 hx1
    go_wp2_with fail
    have hf5 : Fr [] w4 (w4.alloc (.cells #[.int .i64 (kd u),.int .i64 (nm u),.slice z3 (ar u).length z5] 24)):=(Fr.refl _ _).alloc _
    refine (copied_any u _ _ (fun k => k < w.heap.size) (HT4.out.keep0 hf5) HSU.out).mono ?_
    rintro e w6 ⟨hf6,ds,rfl,hty⟩
    obtain ⟨p6,c6,rfl,_⟩:=hty.shape
    have HA6:=hid (HA4.out.keep0 (hf5.trans hf6))
    have HF6:=hid (HF4.out.trans (hf5.trans hf6))
    have HF46:=hid (hf5.trans hf6)
    have HT6:=hid (TyV.weak (N':=fun k => w2.heap.size + 2 ≤ k) hty (fun k hk h => by have h1:=HRG4.out.lt;have h2 : (w4.alloc (.cells #[.int .i64 (kd u),.int .i64 (nm u),.slice z3 (ar u).length z5] 24)).heap.size = w4.heap.size + 1:=(by simp);have h3 : (w4.alloc (.cells #[.int .i64 (kd u),.int .i64 (nm u),.slice z3 (ar u).length z5] 24)).heap.size ≤ k:=h;omega))
    clear hf5 hf6 hty
    obtain ⟨p7,c7,_,r0,r1,r2,r3⟩:=HA6.out.el (List.getElem?_eq_getElem (show j < out.length by omega))
    have r4:=HA6.out.lt
    have t0:=r3 (j * 3)
    have t1:=r3 (j * 3 + 1)
    have t2:=r3 (j * 3 + 2)
    clear r3
    go_wp2_with fail
    have hrg7:=HRG4.out.kept (row:=some w2.heap.size) ((HF46.out.nil [w2.heap.size]).trans (Fr.cells3 w6 w2.heap.size (j * 3) (.int .i64 (kd u)) (.int .i64 (nm u)) (.slice p6 (ar u).length c6)) |>.grown1 (fun k hk => by simp only [List.mem_singleton] at hk;rw [hk])) (fun e => by have h1:=Option.some.inj e;have h2:=HRG.out.owns.lt;have h3:=HZ2.out;have h4:=HDD.out.lt;omega) (fun e => by have h1:=Option.some.inj e;omega)
    go_roundw
    case rel =>
     refine ⟨_,cnt4,out.set j u,hid hrg7,hid (HA6.out.set (by omega) HT6.out (by omega)),by simp;exact hlen,hid (fun i hi => ?_),hid (((HF6.out.nil [w2.heap.size]).trans (Fr.cells3 _ _ _ _ _ _)).drop (Nat.le_refl _))⟩
     by_cases e : i = j
     ·subst e
      rw [List.getElem?_set_self (by omega),HFU.out]
      have hsk : (Lit.int .i64 (i : Int)).sameKey (.int .i64 (i : Int)) = true:=WideAt.sameKey_self trivial
      simp [hsk]
     ·rw [List.getElem?_set_ne (by omega),HOUT.out i hi]
      have hsk : (Lit.int .i64 (i : Int)).sameKey (.int .i64 (j : Int)) = false:=Maps.sameKey_ne (by simp;omega)
      simp [hsk]
    case measure => rw [hrg7.left_eq,HRG.out.left_eq];exact hlt4
open Un (kd nm ar size sizes)
structure RowsV (w : World) (A : Nat → Prop) (B P T E : Nat) (pl : List (List (Int × Int))) : Prop where
 lt : P < B
 ex : ∃ cs : Array Value,Blk w P T cs ∧ cs.size = pl.length ∧ (∀ (v : Nat) (l : List (Int × Int)) (c : Value),pl[v]? = some l → cs[v]? = some c → OwnL w (fun _ => False) B E 2 l.length (rowsQ qPair l) c) ∧
  (∀ (v v' : Nat) (c c' : Value) (g : Nat),v ≠ v' → cs[v]? = some c → cs[v']? = some c' → c.ownBlock = some g → c'.ownBlock ≠ some g) ∧
  ∀ (v : Nat) (c : Value) (g : Nat),cs[v]? = some c → c.ownBlock = some g → ¬ A g
theorem RowsV.blk {w : World} {A : Nat → Prop} {B P T E : Nat} {pl : List (List (Int × Int))} (h : RowsV w A B P T E pl) : P < w.heap.size:=by obtain ⟨_,cs,h1,_⟩:=h;exact h1.lt
theorem RowsV.made {w : World} {A : Nat → Prop} {B P T E n : Nat} (hB : P < B) (h : Blk w P T (madeCells #[.slice none 0 0] n)) : RowsV w A B P T E (List.replicate n []):=by
 refine ⟨hB,_,h,by simp [madeCells],fun v l c h1 h2 => ?_,fun v v' c c' g hne h1 h2 h3 => ?_,fun v c g h1 h3 => ?_⟩
 ·have e1 : l = []:=by
   have h3:=(List.getElem?_eq_some_iff.1 h1).2
   simpa using h3.symm
  have e2 : c = .slice none 0 0:=by
   rw [← Array.getElem?_toList,toList_madeCells_one] at h2
   have h3:=(List.getElem?_eq_some_iff.1 h2).2
   simpa using h3.symm
  subst e1 e2
  exact OwnL.nil _ _ _ _ _
 ·have e2 : c = .slice none 0 0:=by
   rw [← Array.getElem?_toList,toList_madeCells_one] at h1
   have h3:=(List.getElem?_eq_some_iff.1 h1).2
   simpa using h3.symm
  subst e2
  simp [Value.ownBlock] at h3
 ·have e2 : c = .slice none 0 0:=by
   rw [← Array.getElem?_toList,toList_madeCells_one] at h1
   have h3:=(List.getElem?_eq_some_iff.1 h1).2
   simpa using h3.symm
  subst e2
  simp [Value.ownBlock] at h3
theorem RowsV.keep {w w' : World} {A : Nat → Prop} {B P T E : Nat} {pl : List (List (Int × Int))} (h : RowsV w A B P T E pl) {X : List Nat} (hf : Fr X w w') (hX : ∀ k ∈ X,k ≠ P ∧ (k < B ∨ A k)) : RowsV w' A B P T E pl:=by
 obtain ⟨hlt,cs,h1,h2,h3,h4,h5⟩:=h
 exact ⟨hlt,cs,h1.keep hf (fun hx => (hX P hx).1 rfl),h2,fun v l c a b => (h3 v l c a b).keepX hf (fun k hk => ⟨fun e => by
  have h6:=((h3 v l c a b).own k e).1
  rcases (hX k hk).2 with h7 | h7
  ·omega
  ·exact h5 v c k b e h7,fun h => h⟩),h4,h5⟩
theorem RowsV.apart {w : World} {A A' : Nat → Prop} {B P T E : Nat} {pl : List (List (Int × Int))} (h : RowsV w A B P T E pl) (hA : ∀ g,A' g → A g ∨ w.heap.size ≤ g) : RowsV w A' B P T E pl:=by
 obtain ⟨hlt,cs,h1,h2,h3,h4,h5⟩:=h
 refine ⟨hlt,cs,h1,h2,h3,h4,fun v c g a b hg => ?_⟩
 rcases hA g hg with h6 | h6
 ·exact h5 v c g a b h6
 ·have hu : v < pl.length:=by rw [← h2];exact (Array.getElem?_eq_some_iff.1 a).1
  have:=((h3 v _ c (List.getElem?_eq_getElem hu) a).own g b).2
  omega
theorem RowsV.keep0 {w w' : World} {A : Nat → Prop} {B P T E : Nat} {pl : List (List (Int × Int))} (h : RowsV w A B P T E pl) (hf : Fr [] w w') : RowsV w' A B P T E pl:=h.keep hf (by simp)
theorem RowsV.el {w : World} {A : Nat → Prop} {B P T E : Nat} {pl : List (List (Int × Int))} (h : RowsV w A B P T E pl) {v : Nat} {l : List (Int × Int)} (hv : pl[v]? = some l) :
  ∃ p c,w.cell? ⟨P,v,none⟩ = some (.slice p l.length c) ∧ OwnL w (fun _ => False) B E 2 l.length (rowsQ qPair l) (.slice p l.length c) ∧ (∀ o,w.frozen? ⟨P,o,none⟩ = false) ∧ ∀ g,(Value.slice p l.length c).ownBlock = some g → ¬ A g:=by
 obtain ⟨_,cs,h1,h2,h3,_,h7⟩:=h
 have hl : v < cs.size:=by rw [h2];exact (List.getElem?_eq_some_iff.1 hv).1
 have hc : cs[v]? = some cs[v]:=Array.getElem?_eq_getElem hl
 have h5:=h3 v l _ hv hc
 obtain ⟨p,c,e⟩:=h5.shape
 rw [e] at hc h5
 exact ⟨p,c,by rw [h1.cell];exact hc,h5,h1.frozen,fun g hg => h7 v _ g hc hg⟩
theorem RowsV.grown {w w' : World} {A : Nat → Prop} {B P T E : Nat} {pl : List (List (Int × Int))} (h : RowsV w A B P T E pl) (hB : B ≤ w.heap.size) {v : Nat} {l l' : List (Int × Int)} (hv : pl[v]? = some l) {p : Option Addr} {c : Nat} (hc : w.cell? ⟨P,v,none⟩ = some (.slice p l.length c)) {c2 : Value}
  (hg : w.grownBy w' (Value.slice p l.length c).ownBlock) (ho : OwnL w' (fun _ => False) B E 2 l'.length (rowsQ qPair l') c2) (hn : ∀ k,c2.ownBlock = some k → w.heap.size ≤ k ∨ (Value.slice p l.length c).ownBlock = some k) (hA : ∀ k,A k → k < w.heap.size) :
  RowsV (w'.setCell ⟨P,v,none⟩ c2) A B P T E (pl.set v l'):=by
 obtain ⟨hlt,cs,h1,h2,h3,h4,h9⟩:=h
 have hl : v < pl.length:=(List.getElem?_eq_some_iff.1 hv).1
 have hcv : cs[v]? = some (.slice p l.length c):=by rw [← hc,h1.cell]
 have hov:=h3 v l _ hv hcv
 have hP : ∀ g,(Value.slice p l.length c).ownBlock = some g → g ≠ P:=fun g hg => by have:=(hov.own g hg).1;omega
 have hbP : Blk w' P T cs:=(hg.block P h1.lt (fun e => hP P e.symm rfl)).trans h1
 have hfS : Fr [P] w' (w'.setCell ⟨P,v,none⟩ c2):=(Fr.refl [P] w').setCell (.inl (by simp)) _
 refine ⟨hlt,cs.setIfInBounds v c2,hbP.set _ _,by simp [h2],fun u m d a b => ?_,fun u u' d d' g hne a b e => ?_,fun u d g a e hAg => ?_⟩
 ·by_cases e : u = v
  ·subst e
   rw [List.getElem?_set_self hl] at a
   rw [Array.getElem?_setIfInBounds_self_of_lt (by omega)] at b
   simp only [Option.some.injEq] at a b
   subst a b
   exact ho.keep hfS (fun k hk => by simp only [List.mem_singleton] at hk;subst hk;exact ⟨hlt,fun h => h⟩)
  ·rw [List.getElem?_set_ne (by omega)] at a
   rw [Array.getElem?_setIfInBounds_ne (by omega)] at b
   have h5:=h3 u m d a b
   have hfg : Fr (Value.slice p l.length c).ownBlock.toList w w':=⟨hg.os,hg.tape,hg.output,hg.size,fun k hk hx => hg.block k hk (fun e => hx (by simp [← e]))⟩
   have h6:=h5.keepX hfg (fun k hk => ⟨fun e1 => h4 v u _ _ k (by omega) hcv b (by simpa using hk) e1,fun h => h⟩)
   exact h6.keep hfS (fun k hk => by simp only [List.mem_singleton] at hk;subst hk;exact ⟨hlt,fun h => h⟩)
 ·by_cases e1 : u = v
  ·subst e1
   rw [Array.getElem?_setIfInBounds_self_of_lt (by omega)] at a
   rw [Array.getElem?_setIfInBounds_ne (by omega)] at b
   simp only [Option.some.injEq] at a
   subst a
   intro e2
   rcases hn g e with h7 | h7
   ·have hu' : u' < pl.length:=by rw [← h2];exact (Array.getElem?_eq_some_iff.1 b).1
    have:=((h3 u' _ d' (List.getElem?_eq_getElem hu') b).own g e2).2
    omega
   ·exact h4 u u' _ _ g (by omega) hcv b h7 e2
  ·rw [Array.getElem?_setIfInBounds_ne (by omega)] at a
   by_cases e3 : u' = v
   ·subst e3
    rw [Array.getElem?_setIfInBounds_self_of_lt (by omega)] at b
    simp only [Option.some.injEq] at b
    subst b
    intro e2
    rcases hn g e2 with h7 | h7
    ·have hu : u < pl.length:=by rw [← h2];exact (Array.getElem?_eq_some_iff.1 a).1
     have:=((h3 u _ d (List.getElem?_eq_getElem hu) a).own g e).2
     omega
    ·exact h4 u' u _ _ g (by omega) hcv a h7 e
   ·rw [Array.getElem?_setIfInBounds_ne (by omega)] at b
    exact h4 u u' d d' g hne a b e
 ·by_cases e1 : u = v
  ·subst e1
   rw [Array.getElem?_setIfInBounds_self_of_lt (by omega)] at a
   simp only [Option.some.injEq] at a
   subst a
   rcases hn g e with h7 | h7
   ·have:=hA g hAg;omega
   ·exact h9 u _ g hcv h7 hAg
  ·rw [Array.getElem?_setIfInBounds_ne (by omega)] at a
   exact h9 u d g a e hAg
end Go.Proofs.Ytcdlnhfgehhkcaa
