/- part of the proof -/
import Derived.Test.YtcdlnhfgehhkcaaQ08
import Derived.Maps.OwnSet
import Derived.Maps.Views
set_option linter.unusedVariables false
set_option linter.unusedSimpArgs false
set_option linter.unusedSectionVars false
namespace Go.Proofs.Ytcdlnhfgehhkcaa
open Go.RowKit Go.Lib Go.Maps
open Un (kd nm ar size sizes unsolved)
theorem keyed_int : Keyed Try.prog 3:=int_keyed Try.underlying3
theorem zero_int (w : World) : (zeroValue 3).run Try.prog w = .ok (.int .i64 0) w:=by kernel_rfl
def MapII (w : World) (m n : Nat) (f : Int → Option Int) : Prop:=
 ∃ D : DataW Unit,w.ownsMap Try.prog 3 (plainElem Try.prog 3) m n D ∧
  ∀ i : Int,(Lit.int .i64 i).wf = true → Maps.has D (.int .i64 i) = (f i).isSome ∧ D.atKey (.int .i64 i) (.lit (.int .i64 0)) = .lit (.int .i64 ((f i).getD 0))
theorem MapII.made (w : World) : MapII (w.alloc (.map #[] 0)) w.heap.size 0 (fun _ => none):=
 ⟨_,World.ownsMap_made _ _ _ _,fun i _ => ⟨rfl,rfl⟩⟩
theorem MapII.lt {w : World} {m n : Nat} {f : Int → Option Int} (h : MapII w m n f) : m < w.heap.size:=by obtain ⟨_,h,_⟩:=h;exact h.lt
theorem MapII.stay {w w' : World} {m n : Nat} {f : Int → Option Int} (h : MapII w m n f) (hf : w'.heap[m]? = w.heap[m]?) : MapII w' m n f:=by
 obtain ⟨D,⟨es,clock,hb,r⟩,hD⟩:=h
 exact ⟨D,⟨es,clock,hf.trans hb,r⟩,hD⟩
theorem MapII.keep {w w' : World} {m n : Nat} {f : Int → Option Int} (h : MapII w m n f) {X : List Nat} (hf : Fr X w w') (hm : m ∉ X) : MapII w' m n f:=h.stay (hf.block m h.lt hm)
theorem MapII.mono {w : World} {m n n' : Nat} {f : Int → Option Int} (h : MapII w m n f) (hn : n ≤ n') : MapII w m n' f:=by
 obtain ⟨D,h,hD⟩:=h
 exact ⟨D,h.mono hn,hD⟩
section
variable (w : World) {ops : Array Oper} {rest : List Oper} {o : Oper} {a : Act} {Q : Exit → Act → World → Prop}
theorem wpList_look_ii (hg : o.guard = none) (m x : Operand) (t : TypeId) (hop : o.op = Op.lookup t m x true) (ht : Try.prog.underlying t = some (.map 3 3)) (b n : Nat) (f : Int → Option Int)
  (hm : a.eval m = .map (some b)) (hown : MapII w b n f) (i : Int) (hx : a.eval x = .int .i64 i) (hi : (Lit.int .i64 i).wf = true)
  (hK : wpList Try.prog ops Q rest (a.put o.dst (.tuple #[.int .i64 ((f i).getD 0),.bool (f i).isSome])) w) : wpList Try.prog ops Q (o :: rest) a w:=by
 obtain ⟨D,hD,hf⟩:=hown
 obtain ⟨h1,h2⟩:=hf i hi
 refine wpList_lookup_own_ok_int w hg m x t hop _ _ .i64 keyed_int ht Try.underlying3 (zero_int w) b n D hm hD _ _ hx (keyOf_int_mk Try.underlying3 hi) (fun c hc _ => ?_)
 rw [h2] at hc
 simp only [DataW.lit.injEq,Lit.int.injEq,true_and] at hc
 rw [h1,← hc]
 exact hK
theorem wpList_look1_ii (hg : o.guard = none) (m x : Operand) (t : TypeId) (hop : o.op = Op.lookup t m x false) (ht : Try.prog.underlying t = some (.map 3 3)) (b n : Nat) (f : Int → Option Int)
  (hm : a.eval m = .map (some b)) (hown : MapII w b n f) (i : Int) (hx : a.eval x = .int .i64 i) (hi : (Lit.int .i64 i).wf = true)
  (hK : wpList Try.prog ops Q rest (a.put o.dst (.int .i64 ((f i).getD 0))) w) : wpList Try.prog ops Q (o :: rest) a w:=by
 obtain ⟨D,hD,hf⟩:=hown
 obtain ⟨h1,h2⟩:=hf i hi
 refine wpList_lookup_own_int w hg m x t hop _ _ .i64 keyed_int ht Try.underlying3 (zero_int w) b n D hm hD _ _ hx (keyOf_int_mk Try.underlying3 hi) (fun c hc _ => ?_)
 rw [h2] at hc
 simp only [DataW.lit.injEq,Lit.int.injEq,true_and] at hc
 rw [← hc]
 exact hK
theorem wpList_put_ii (hg : o.guard = none) (m x v : Operand) (t : TypeId) (hop : o.op = Op.mapUpdate t m x v) (ht : Try.prog.underlying t = some (.map 3 3)) (b n : Nat) (f : Int → Option Int)
  (hm : a.eval m = .map (some b)) (hown : MapII w b n f) (hn : n < 9223372036854775807) (i y : Int) (hx : a.eval x = .int .i64 i) (hv : a.eval v = .int .i64 y) (hi : (Lit.int .i64 i).wf = true) (hy : (Lit.int .i64 y).wf = true)
  (hK : ∀ w',MapII w' b (n + 1) (fun j => if j = i then some y else f j) → Fr [b] w w' → wpList Try.prog ops Q rest (a.put o.dst undef) w') : wpList Try.prog ops Q (o :: rest) a w:=by
 obtain ⟨D,hD,hf⟩:=hown
 have hik : WideAt.IsKeyLit (.int .i64 i):=trivial
 refine wpList_mapUpdate_own w hg m x v t hop _ _ keyed_int ht _ b n D hm hD (by unfold maxLen;omega) _ _ _ hx hv (keyOf_int_mk Try.underlying3 hi) (.lit (.int .i64 y)) [] (plainElem_int Try.underlying3 hy) (fun w' h1 h2 => hK w' ⟨_,h1,fun j hj => ?_⟩ ⟨h2.os,h2.tape,h2.output,h2.size,fun k hk hx => h2.block k hk (fun e => hx (by simp at e;simp [e]))⟩)
 by_cases e : j = i
 ·subst e
  have hif : (fun k => if k = j then some y else f k) j = some y:=if_pos rfl
  rw [hif]
  exact ⟨has_put_same hD.isMap hik _,atKey_put_same hD.isMap hik _ _⟩
 ·have hif : (fun k => if k = i then some y else f k) j = f j:=if_neg e
  rw [hif]
  have hne : (Lit.int .i64 j) ≠ .int .i64 i:=by simpa using e
  rw [has_put_other hne,atKey_put_other hne]
  exact hf j hj
end
def ArrV (w : World) (N : Nat → Prop) (e : Nat) (l : List Ty) : Prop:=∃ cs : Array Value,Blk w e 24 cs ∧ InN w N (rowsQ qTy l) cs.toList
theorem inn_zeros (w : World) (N : Nat → Prop) : ∀ n,InN w N (rowsQ qTy (List.replicate n Un.zero)) ((List.range (n * 3)).map fun j => (#[Value.int .i64 0,.int .i64 0,.slice none 0 0][j % 3]!))
 | 0 => by simp [rowsQ];exact InN.mk_nil _ _
 | n + 1 => by
  rw [List.replicate_succ',rowsQ_snoc,Nat.succ_mul,List.range_add,List.map_append]
  refine InN.app (inn_zeros w N n) ?_
  have : ((List.range 3).map fun x => n * 3 + x).map (fun j => (#[Value.int .i64 0,.int .i64 0,.slice none 0 0][j % 3]!)) = [.int .i64 0,.int .i64 0,.slice none 0 0]:=by
   rw [show List.range 3 = [0,1,2] from rfl]
   simp [Nat.add_mod]
  rw [this]
  exact TyV.mk (TysV.nil none 0)
theorem ArrV.made (w : World) (N : Nat → Prop) (n : Nat) : ArrV (w.alloc (.cells (madeCells #[.int .i64 0,.int .i64 0,.slice none 0 0] (n * 3)) 24)) N w.heap.size (List.replicate n Un.zero):=by
 refine ⟨_,Blk.new _ _ _,?_⟩
 have:=inn_zeros (w.alloc (.cells (madeCells #[.int .i64 0,.int .i64 0,.slice none 0 0] (n * 3)) 24)) N n
 simpa [madeCells,Array.toList_map] using this
theorem ArrV.lt {w : World} {N : Nat → Prop} {e : Nat} {l : List Ty} (h : ArrV w N e l) : e < w.heap.size:=by obtain ⟨_,h,_⟩:=h;exact h.lt
theorem ArrV.stay {w w' : World} {N : Nat → Prop} {e : Nat} {l : List Ty} (h : ArrV w N e l) (hs : w.heap.size ≤ w'.heap.size) (he : w'.heap[e]? = w.heap[e]?) (hN : ∀ k,k < w.heap.size → N k → w'.heap[k]? = w.heap[k]?) : ArrV w' N e l:=by
 obtain ⟨cs,h1,h2⟩:=h
 exact ⟨cs,he.trans h1,h2.mono (fun k hk hl => ⟨hk,Nat.lt_of_lt_of_le hl hs,hN k hl hk⟩)⟩
theorem ArrV.keep {w w' : World} {N : Nat → Prop} {e : Nat} {l : List Ty} (h : ArrV w N e l) {X : List Nat} (hf : Fr X w w') (he : e ∉ X) (hN : ∀ k ∈ X,¬ N k) : ArrV w' N e l:=h.stay hf.size (hf.block e h.lt he) (fun k hk hn => hf.block k hk (fun hx => hN k hx hn))
theorem ArrV.keep0 {w w' : World} {N : Nat → Prop} {e : Nat} {l : List Ty} (h : ArrV w N e l) (hf : Fr [] w w') : ArrV w' N e l:=h.keep hf (by simp) (by simp)
theorem ArrV.tysV {w : World} {N N' : Nat → Prop} {e : Nat} {l : List Ty} (h : ArrV w N e l) (hl : l.length ≤ 1000000) (hN : ∀ k,k < w.heap.size → N k → N' k) (he : N' e) : TysV w N' l (.slice (some ⟨e,0,none⟩) l.length l.length):=by
 obtain ⟨cs,h1,h2⟩:=h
 have hl2 : cs.toList.length = l.length * 3:=by rw [h2.len,rowsQ_ln ln_qTy]
 unfold TysV
 rw [InN]
 refine ⟨_,[],rfl,?_,by rw [InN]⟩
 by_cases h0 : l.length = 0
 ·obtain rfl:=List.eq_nil_of_length_eq_zero h0
  exact .inl ⟨_,_,rfl,rfl,InN.mk_nil _ _⟩
 ·exact .inr ⟨e,0,l.length,cs.toList,rfl,by omega,Nat.le_refl _,by unfold maxLen;omega,he,h1.lt,hl2,fun j hj => by rw [Nat.zero_add,h1.cell];simp,h2.weak hN⟩
theorem ArrV.el {w : World} {N : Nat → Prop} {e : Nat} {l : List Ty} (h : ArrV w N e l) {i : Nat} {t : Ty} (ht : l[i]? = some t) :
  ∃ p c,TyV w N t [.int .i64 (kd t),.int .i64 (nm t),.slice p (ar t).length c] ∧ w.cell? ⟨e,i * 3,none⟩ = some (.int .i64 (kd t)) ∧ w.cell? ⟨e,i * 3 + 1,none⟩ = some (.int .i64 (nm t)) ∧ w.cell? ⟨e,i * 3 + 2,none⟩ = some (.slice p (ar t).length c) ∧ ∀ o,w.frozen? ⟨e,o,none⟩ = false:=by
 obtain ⟨cs,h1,h2⟩:=h
 obtain ⟨ds,k1,k2,k3⟩:=InN.get (f:=qTy) (s:=3) ln_qTy l _ i t h2 ht
 obtain ⟨p,c,rfl,_⟩:=TyV.shape k1
 have hcl : ∀ j,j < 3 → w.cell? ⟨e,i * 3 + j,none⟩ = [Value.int .i64 (kd t),.int .i64 (nm t),.slice p (ar t).length c][j]?:=fun j hj => by rw [h1.cell,← k3 j hj];simp
 exact ⟨p,c,k1,hcl 0 (by omega),hcl 1 (by omega),hcl 2 (by omega),h1.frozen⟩
theorem inn_setTy {w : World} {N : Nat → Prop} {t : Ty} {d0 d1 d2 : Value} (ht : TyV w N t [d0,d1,d2]) : ∀ {l : List Ty} {xs : List Value} {i : Nat},InN w N (rowsQ qTy l) xs → i < l.length →
  InN w N (rowsQ qTy (l.set i t)) (((xs.set (i * 3) d0).set (i * 3 + 1) d1).set (i * 3 + 2) d2)
 | [],_,_,_,hi => by simp at hi
 | a :: r,xs,0,h,hi => by
  rw [rowsQ] at h
  obtain ⟨c,d,rfl,h1,h2⟩:=h.split
  obtain ⟨p,cc,rfl,_⟩:=TyV.shape h1
  rw [List.set_cons_zero,rowsQ]
  exact InN.app (cs:=[d0,d1,d2]) ht h2
 | a :: r,xs,i + 1,h,hi => by
  rw [rowsQ] at h
  obtain ⟨c,d,rfl,h1,h2⟩:=h.split
  have hl : c.length = 3:=by rw [h1.len,ln_qTy]
  have:=inn_setTy ht h2 (i:=i) (by simpa using hi)
  rw [List.set_cons_succ,rowsQ,List.set_append_right _ _ (by omega),List.set_append_right _ _ (by omega),List.set_append_right _ _ (by omega),hl,show (i + 1) * 3 - 3 = i * 3 by omega,show (i + 1) * 3 + 1 - 3 = i * 3 + 1 by omega,show (i + 1) * 3 + 2 - 3 = i * 3 + 2 by omega]
  exact InN.app h1 this
theorem ArrV.set {w : World} {N : Nat → Prop} {e : Nat} {l : List Ty} (h : ArrV w N e l) {i : Nat} (hi : i < l.length) {t : Ty} {d0 d1 d2 : Value} (ht : TyV w N t [d0,d1,d2]) (he : ¬ N e) :
  ArrV (((w.setCell ⟨e,i * 3,none⟩ d0).setCell ⟨e,i * 3 + 1,none⟩ d1).setCell ⟨e,i * 3 + 2,none⟩ d2) N e (l.set i t):=by
 obtain ⟨cs,h1,h2⟩:=h
 refine ⟨((cs.setIfInBounds (i * 3) d0).setIfInBounds (i * 3 + 1) d1).setIfInBounds (i * 3 + 2) d2,((h1.set _ _).set _ _).set _ _,?_⟩
 rw [Array.toList_setIfInBounds,Array.toList_setIfInBounds,Array.toList_setIfInBounds]
 refine (inn_setTy ht h2 hi).mono (fun k hk hl => ⟨hk,by simpa [World.setCell] using hl,?_⟩)
 have hne : k ≠ e:=fun h => he (h ▸ hk)
 rw [Below.heap_setCell _ _ _ _ hne,Below.heap_setCell _ _ _ _ hne,Below.heap_setCell _ _ _ _ hne]
theorem Fr.cells3 (w : World) (e i : Nat) (d0 d1 d2 : Value) : Fr [e] w (((w.setCell ⟨e,i,none⟩ d0).setCell ⟨e,i + 1,none⟩ d1).setCell ⟨e,i + 2,none⟩ d2):=
 (((Fr.refl [e] w).setCell (.inl (by simp)) _).setCell (.inl (by simp)) _).setCell (.inl (by simp)) _
theorem SolFr.new {b : Nat} {tv : Value} {w wr w' : World} (h : SolFr b tv tv w wr) {X : List Nat} (hf : Fr X wr w') (hX : ∀ k ∈ X,w.heap.size ≤ k) : SolFr b tv tv w w':=
 ⟨Nat.le_trans h.size hf.size,hf.os.trans h.os,hf.tape.trans h.tape,hf.output.trans h.output,fun k hk hb ho => (hf.block k (Nat.lt_of_lt_of_le hk h.size) (fun hx => by have:=hX k hx;omega)).trans (h.block k hk hb ho),fun _ h => .inl h⟩
open Go.RowKit Go.Lib
open Un (kd nm ar size sizes unsolved speaker)
namespace Un
def solStep (f n i : Nat) (x : List Tm × (Int → Option Int) × List Ty) : Option (List Tm × (Int → Option Int) × List Ty):=
 match speaker f x.1 i with
 | none => none
 | some (ts,sp) => match x.2.1 sp with
  | some k => some (ts,x.2.1,x.2.2.set i (var k))
  | none => some (ts,(fun j => if j = sp then some (i : Int) else x.2.1 j),if n ≤ sp.toNat then x.2.2.set i (((ts[sp.toNat]?).map Tm.t).getD zero) else x.2.2)
def sol (f n : Nat) (ts : List Tm) : Nat → Option (List Tm × (Int → Option Int) × List Ty)
 | 0 => some (ts,fun _ => none,List.replicate n zero)
 | i + 1 => match sol f n ts i with
  | none => none
  | some x => solStep f n i x
theorem sol_some {f n : Nat} {ts : List Tm} {y : List Tm × (Int → Option Int) × List Ty} : ∀ {k i : Nat},i ≤ k → sol f n ts k = some y → ∃ x,sol f n ts i = some x
 | 0,i,h,hs => by obtain rfl : i = 0:=(by omega);exact ⟨_,hs⟩
 | k + 1,i,h,hs => by
  rw [sol] at hs
  cases h1 : sol f n ts k with
  | none => simp [h1] at hs
  | some x =>
   by_cases e : i = k + 1
   ·subst e
    rw [sol,h1]
    rw [h1] at hs
    exact ⟨_,hs⟩
   ·exact sol_some (by omega) h1
theorem solStep_len {f n i : Nat} {x y : List Tm × (Int → Option Int) × List Ty} (h : solStep f n i x = some y) : y.1.length = x.1.length ∧ y.2.2.length = x.2.2.length:=by
 unfold solStep at h
 cases h1 : speaker f x.1 i with
 | none => simp [h1] at h
 | some z =>
  obtain ⟨ts,sp⟩:=z
  have h2:=(speaker_len h1).1
  rw [h1] at h
  simp only at h
  cases h3 : x.2.1 sp with
  | some k =>
   rw [h3] at h
   simp only [Option.some.injEq] at h
   subst h
   exact ⟨h2,by simp⟩
  | none =>
   rw [h3] at h
   simp only [Option.some.injEq] at h
   subst h
   refine ⟨h2,?_⟩
   simp only
   split <;> simp
theorem sol_len {f n : Nat} {ts : List Tm} : ∀ {i : Nat} {y : List Tm × (Int → Option Int) × List Ty},sol f n ts i = some y → y.1.length = ts.length ∧ y.2.2.length = n
 | 0,y,h => by
  rw [sol] at h
  simp only [Option.some.injEq] at h
  subst h
  exact ⟨rfl,by simp⟩
 | i + 1,y,h => by
  rw [sol] at h
  cases h1 : sol f n ts i with
  | none => simp [h1] at h
  | some x =>
   rw [h1] at h
   have h2:=sol_len h1
   have h3:=solStep_len h
   exact ⟨h3.1.trans h2.1,h3.2.trans h2.2⟩
end Un
def SolutionP (b : Nat) (out : List Ty) (tv : Value) (w : World) (e : Ending) (w' : World) : Prop:=∃ v,e = .returned v ∧ TysV w' (fun _ => True) out v ∧ SolFr b tv tv w w'
set_option maxRecDepth 100000 in
set_option maxHeartbeats 3200000 in
theorem solution_any (b n : Nat) (N : Nat → Prop) (f : Nat) (ts ts' : List Tm) (lst : Int → Option Int) (out : List Ty) (tv : Value) (w : World) (hS : SolV w N b n ts tv) (hn : n ≤ 1000) (hr : Un.sol f n ts n = some (ts',lst,out)) :
  Calls Try.prog 69 #[.pointer (some ⟨b,0,none⟩)] w (SolutionP b out tv w):=by
 obtain ⟨K,hKd⟩ : ∃ K : Nat → Prop,K = fun k => k < w.heap.size ∧ k ≠ b ∧ tv.ownBlock ≠ some k:=⟨_,rfl⟩
 have HKd:=hid hKd
 have hbl:=hS.lt
 have hown : ∀ k,tv.ownBlock = some k → b + 1 ≤ k ∧ k < w.heap.size:=hS.l.own
 have HOW:=hid hown
 have HBL:=hid hbl
 have HS:=hid (hS.weak (N':=fun k => k < w.heap.size) (fun k hk _ => hk))
 have HR:=hid hr
 have hmm:=@run_makeMap Try.prog
 obtain ⟨j0,hj0,jz0,jz1,jz2⟩:=info_parts info_ty
 have hms : ∀ w1 : World,(Instr.makeSlice 22 (.int .i64 (n : Int)) (.int .i64 (n : Int))).run Try.prog w1 = .ok (.slice (some ⟨w1.heap.size,0,none⟩) n n) (w1.alloc (.cells (madeCells #[.int .i64 0,.int .i64 0,.slice none 0 0] (n * 3)) 24)):=fun w1 => by
  have:=run_makeSlice w1 22 24 j0 _ Try.underlying22 hj0 jz0 .i64 .i64 n n (by omega) (Int.le_refl _) (by rw [jz1];simp;omega) (by rw [jz2];omega) (by omega)
  rw [jz1] at this
  simpa [Value.cells] using this
 clear hS hr hKd hbl hown hj0 jz0 jz1 jz2
 go_enter Try.func69,Try.ntmps69
 have s0 : w.cell? ⟨b,0,none⟩ = some (.int .i64 n):=HS.out.blk.cell 0
 have hb0 : b < w.heap.size:=HBL.out
 go_wp2_with fail
 have hF0 : Fr [] w ((w.alloc (.map #[] 0)).alloc (.cells (madeCells #[.int .i64 0,.int .i64 0,.slice none 0 0] (n * 3)) 24)):=((Fr.refl _ _).alloc _).alloc _
 have HA0 : Hid (ArrV ((w.alloc (.map #[] 0)).alloc (.cells (madeCells #[.int .i64 0,.int .i64 0,.slice none 0 0] (n * 3)) 24)) K (w.heap.size + 1) (List.replicate n Un.zero)):=hid (by
  have:=ArrV.made (w.alloc (.map #[] 0)) K n
  rwa [show (w.alloc (.map #[] 0)).heap.size = w.heap.size + 1 from by simp] at this)
 have HM0 : Hid (MapII ((w.alloc (.map #[] 0)).alloc (.cells (madeCells #[.int .i64 0,.int .i64 0,.slice none 0 0] (n * 3)) 24)) w.heap.size 0 (fun _ => none)):=hid ((MapII.made w).keep ((Fr.refl [] _).alloc _) (by simp))
 have HF0:=hid hF0
 clear hF0 s0
 go_loopw [17] (fun x wr => ∃ (i : Nat) (tsi : List Tm) (lsti : Int → Option Int) (outi : List Ty),x = .int .i64 i ∧ i ≤ n ∧ Hid (Un.sol f n ts i = some (tsi,lsti,outi)) ∧ Hid (SolV wr (fun k => k < w.heap.size) b n tsi tv) ∧ Hid (MapII wr w.heap.size i lsti) ∧ Hid (ArrV wr K (w.heap.size + 1) outi) ∧ Hid (SolFr b tv tv w wr)) (fun x _ => n - (RowKit.intOf x).toNat)
 case atStart => exact ⟨0,ts,_,_,rfl,Nat.zero_le _,hid rfl,hid (HS.out.keep0 HF0.out),HM0,HA0,hid (SolFr.of_fr HF0.out)⟩
 case round =>
  obtain ⟨i,tsi,lsti,outi,rfl,hi,HQ,HS1,HM1,HA1,HF1⟩:=hrel
  clear HS HA0 HM0 HF0 hmm hms
  by_cases hlt : i < n
  ·have hd2 : decide ((i : Int) < (n : Int)) = true:=by simp;omega
   have hd3 : decide (i < n) = true:=by simpa using hlt
   obtain ⟨y,hy⟩:=Un.sol_some (i:=i + 1) (by omega) HR.out
   have HY:=hid hy
   rw [Un.sol,HQ.out] at hy
   simp only at hy
   unfold Un.solStep at hy
   simp only at hy
   obtain ⟨ts2,sp,hsp⟩ : ∃ ts2 sp,speaker f tsi i = some (ts2,sp):=by
    cases h1 : speaker f tsi i with
    | none => simp [h1] at hy
    | some z => exact ⟨z.1,z.2,rfl⟩
   rw [hsp] at hy
   simp only at hy
   have hl1:=Un.speaker_len hsp
   have HL1:=hid hl1
   have HSP:=hid hsp
   have HYY:=hid hy
   have HLO:=hid (Un.sol_len HQ.out)
   clear hsp hy hl1
   go_wp2_with fail
   refine (speaker_any b n _ f tsi ts2 i sp tv wr HS1.out HSP.out).mono ?_
   rintro e w2 ⟨rfl,hS2,hF2⟩
   have HS2:=hid hS2
   have HF2:=hid (HF1.out.trans hF2)
   have hne : ∀ k,w.heap.size ≤ k → k ≠ b ∧ tv.ownBlock ≠ some k:=fun k hk => ⟨by have:=HBL.out;omega,fun h => by have:=(HOW.out k h).2;omega⟩
   have HM2:=hid (HM1.out.stay (hF2.block _ HM1.out.lt (hne _ (Nat.le_refl _)).1 (hne _ (Nat.le_refl _)).2))
   have HA2:=hid (HA1.out.stay hF2.size (hF2.block _ HA1.out.lt (hne _ (by omega)).1 (hne _ (by omega)).2) (fun k hk hK => by
    rw [HKd.out] at hK
    exact hF2.block k hk hK.2.1 hK.2.2))
   obtain ⟨g,c,rfl⟩:=hS2.shape
   have hwsp : (Lit.int .i64 sp).wf = true:=by
    have h1:=HL1.out
    have h2 : ts2.length ≤ 9223372036854775807:=by
     rcases hS2.l with ⟨xs,⟨_,h | ⟨_,_,_,he,_,_,h2,h3,_⟩⟩,_⟩
     ·have:=h.2;omega
     ·have:=h2;unfold maxLen at h3;omega
    exact WalkArith.wf_i64 (by omega)
   clear hS2 hF2 HS1 HM1 HA1 HF1
   have hKe : ¬ K (w.heap.size + 1):=by rw [HKd.out];intro h;have:=h.1;omega
   have hKm : ¬ K w.heap.size:=by rw [HKd.out];intro h;have:=h.1;omega
   have HKE:=hid hKe
   have HKM:=hid hKm
   have HNE:=hid hne
   clear hKe hKm hne
   rcases hls : lsti sp with _ | k
   ·have hq:=HYY.out
    rw [hls] at hq
    simp only [Option.some.injEq] at hq
    have HQ3:=hid hq
    clear hq
    by_cases hsn : (n : Int) ≤ sp
    ·obtain ⟨q,rfl⟩ : ∃ q : Nat,sp = q:=⟨sp.toNat,by have:=HL1.out;omega⟩
     have hd4 : decide ((n : Int) ≤ (q : Int)) = true:=by simpa using hsn
     have hd5 : decide (n ≤ q) = true:=by simp;omega
     have hql : q < ts2.length:=by have:=HL1.out;omega
     have hd6 : decide ((q : Int) < (ts2.length : Int)) = true:=by simp;omega
     have hd7 : decide (q < ts2.length) = true:=by simpa using hql
     have HQL:=hid hql
     clear hql
     go_wp2_with (first | (at_lookup;refine wpList_look_ii _ rfl _ _ 99 rfl Try.underlying99 _ _ lsti rfl HM2.out q rfl hwsp ?_;rw [hls];simp only [Option.getD_none,Option.isSome_none]) | (at_mapUpdate;refine wpList_put_ii _ rfl _ _ _ 99 rfl Try.underlying99 _ i lsti rfl HM2.out (by omega) q i rfl rfl hwsp (WalkArith.wf_i64 (by omega)) ?_;intro w3 hM3 hf3;have HM3:=hid hM3;have HF3:=hid hf3;have HS3:=hid (HS2.out.beside hf3 (fun k hk => by simp only [List.mem_singleton] at hk;subst hk;exact ⟨(HNE.out _ (Nat.le_refl _)).1,(HNE.out _ (Nat.le_refl _)).2,by omega⟩));have HA3:=hid (HA2.out.keep hf3 (by simp) (fun k hk => by simp only [List.mem_singleton] at hk;subst hk;exact HKM.out));clear hM3 hf3;have s0 : w3.cell? ⟨b,0,none⟩ = some (.int .i64 n):=HS3.out.blk.cell 0;have s1 : w3.cell? ⟨b,1,none⟩ = some (.slice g ts2.length c):=HS3.out.blk.cell 1;have sl : b < w3.heap.size:=HS3.out.blk.lt;obtain ⟨g0,cap,p2,c2,pv,cv,he,q1,q2,_,q4,e0,e1,e2,_,_,_,q6,_⟩:=HS3.out.el (List.getElem?_eq_getElem HQL.out);simp only [Value.slice.injEq,true_and] at he;obtain ⟨rfl,rfl⟩:=he;obtain ⟨p5,c5,_,r0,r1,r2,r3⟩:=HA3.out.el (List.getElem?_eq_getElem (show i < outi.length by have:=HLO.out.2;omega));have r4:=HA3.out.lt;have Q6:=hid q6;clear q6;have t0:=r3 (i * 3);have t1:=r3 (i * 3 + 1);have t2:=r3 (i * 3 + 2);clear r3))
     go_roundw
     case rel =>
      have hts : ts2[q]? = some ts2[q]:=List.getElem?_eq_getElem HQL.out
      refine ⟨i + 1,ts2,_,outi.set i (ts2[q]'HQL.out).t,by go_num,by omega,hid ?_,hid (HS3.out.beside (Fr.cells3 _ _ _ _ _ _) (fun k hk => ?_)),hid (HM3.out.keep (Fr.cells3 _ _ _ _ _ _) (by simp)),hid (HA3.out.set (by have:=HLO.out.2;omega) (TyV.weak Q6.out (fun k _ hk => ?_)) HKE.out),hid ((HF2.out.new HF3.out (by simp)).new (Fr.cells3 _ _ _ _ _ _) (by simp))⟩
      ·rw [HY.out,← HQ3.out]
       simp [hts]
       omega
      ·simp only [List.mem_singleton] at hk
       subst hk
       exact ⟨(HNE.out _ (by omega)).1,(HNE.out _ (by omega)).2,by omega⟩
      ·rw [HKd.out]
       exact ⟨hk.1.2,hk.1.1,fun e => hk.2 (by simpa [Value.ownBlock] using e)⟩
     case measure => simp [RowKit.intOf];omega
    ·have hd4 : decide ((n : Int) ≤ sp) = false:=by simpa using hsn
     go_wp2_with (first | (at_lookup;refine wpList_look_ii _ rfl _ _ 99 rfl Try.underlying99 _ _ lsti rfl HM2.out sp rfl hwsp ?_;rw [hls];simp only [Option.getD_none,Option.isSome_none]) | (at_mapUpdate;refine wpList_put_ii _ rfl _ _ _ 99 rfl Try.underlying99 _ i lsti rfl HM2.out (by omega) sp i rfl rfl hwsp (WalkArith.wf_i64 (by omega)) ?_;intro w3 hM3 hf3;have HM3:=hid hM3;have HF3:=hid hf3;have HS3:=hid (HS2.out.beside hf3 (fun k hk => by simp only [List.mem_singleton] at hk;subst hk;exact ⟨(HNE.out _ (Nat.le_refl _)).1,(HNE.out _ (Nat.le_refl _)).2,by omega⟩));have HA3:=hid (HA2.out.keep hf3 (by simp) (fun k hk => by simp only [List.mem_singleton] at hk;subst hk;exact HKM.out));clear hM3 hf3;have s0 : w3.cell? ⟨b,0,none⟩ = some (.int .i64 n):=HS3.out.blk.cell 0;have sl : b < w3.heap.size:=HS3.out.blk.lt))
     go_roundw
     case rel =>
      refine ⟨i + 1,ts2,_,outi,by go_num,by omega,hid ?_,HS3,HM3,HA3,hid (HF2.out.new HF3.out (by simp))⟩
      rw [HY.out,← HQ3.out]
      simp
      omega
     case measure => simp [RowKit.intOf];omega
   ·have hq:=HYY.out
    rw [hls] at hq
    simp only [Option.some.injEq] at hq
    have HQ3:=hid hq
    clear hq
    go_wp2_with (at_lookup;refine wpList_look_ii _ rfl _ _ 99 rfl Try.underlying99 _ _ lsti rfl HM2.out sp rfl hwsp ?_;rw [hls];simp only [Option.getD_some,Option.isSome_some])
    refine (variable_any _ _).mono ?_
    rintro e w3 ⟨rfl,hf3⟩
    have HF3:=hid hf3
    have HA3:=hid (HA2.out.keep0 hf3)
    clear hf3
    obtain ⟨p5,c5,_,r0,r1,r2,r3⟩:=HA3.out.el (List.getElem?_eq_getElem (show i < outi.length by have:=HLO.out.2;omega))
    have r4:=HA3.out.lt
    have t0:=r3 (i * 3)
    have t1:=r3 (i * 3 + 1)
    have t2:=r3 (i * 3 + 2)
    clear r3
    go_wp2_with fail
    go_roundw
    case rel =>
     refine ⟨i + 1,ts2,lsti,outi.set i (Un.var k),by go_num,by omega,hid ?_,hid ((HS2.out.keep0 HF3.out).beside (Fr.cells3 _ _ _ _ _ _) (fun k hk => ?_)),hid (((HM2.out.keep HF3.out (by simp)).keep (Fr.cells3 _ _ _ _ _ _) (by simp)).mono (by omega)),hid (HA3.out.set (by have:=HLO.out.2;omega) (TyV.mk (TysV.nil _ _)) HKE.out),hid ((HF2.out.new HF3.out (by simp)).new (Fr.cells3 _ _ _ _ _ _) (by simp))⟩
     ·rw [HY.out,← HQ3.out]
     ·simp only [List.mem_singleton] at hk
      subst hk
      exact ⟨(HNE.out _ (by omega)).1,(HNE.out _ (by omega)).2,by omega⟩
    case measure => simp [RowKit.intOf];omega
  ·have hd2 : decide ((i : Int) < (n : Int)) = false:=by simp;omega
   have hd3 : decide (i < n) = false:=by simpa using hlt
   obtain rfl : i = n:=by omega
   have hq:=HQ.out
   rw [HR.out] at hq
   simp only [Option.some.injEq,Prod.mk.injEq] at hq
   obtain ⟨rfl,rfl,rfl⟩:=hq
   go_wp2_with fail
   go_ret
   have hl:=(Un.sol_len HR.out).2
   simp only at hl
   refine ⟨_,rfl,?_,HF1.out⟩
   have:=HA1.out.tysV (N':=fun _ => True) (by omega) (fun _ _ _ => trivial) trivial
   rw [hl] at this
   exact this
end Go.Proofs.Ytcdlnhfgehhkcaa
