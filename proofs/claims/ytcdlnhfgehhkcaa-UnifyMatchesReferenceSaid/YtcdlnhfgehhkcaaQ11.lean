/- part of the proof -/
import Derived.Test.YtcdlnhfgehhkcaaQ10
import Derived.Laws.EntriesVeiled
import Derived.Lib.SliceRun
import Derived.Maps.RangeWalk
set_option linter.unusedVariables false
set_option linter.unusedSimpArgs false
set_option linter.unusedSectionVars false
namespace Go.Proofs.Ytcdlnhfgehhkcaa
open Go.RowKit Go.Lib
open Un (kd nm ar size sizes unsolved appStep app)
theorem addr_add (b o j : Nat) : ((⟨b,o,none⟩ : Addr).add j) = ⟨b,o + j,none⟩:=by
 simp only [Addr.add]
 split
 ·rename_i h;subst h;rfl
 ·rfl
theorem OwnL.empty {w : World} (N : Nat → Prop) {B E s g : Nat} (hB : B ≤ g) (hb : Blk w g E #[]) : OwnL w N B E s 0 .nil (.slice (some ⟨g,0,none⟩) 0 0):=
 ⟨[],⟨by simp,.inr ⟨g,0,#[],rfl,hB,hb,Nat.le_refl _,Nat.zero_le _,by simp,by simp⟩⟩,InN.mk_nil _ _⟩
def CloneP (E : List Ty) (w : World) (e : Ending) (w' : World) : Prop:=∃ v,e = .returned v ∧ TysV w' (fun _ => True) E v ∧ Fr [] w w'
set_option maxRecDepth 100000 in
set_option maxHeartbeats 1600000 in
theorem clone_any (E : List Ty) (v : Value) (w : World) (hv : TysV w (fun _ => True) E v) (h0 : 0 < E.length) (hl : E.length ≤ 100000) : Calls Try.prog 78 #[v] w (CloneP E w):=by
 rcases hv.cases with ⟨rfl,_⟩ | ⟨_,b,o,cap,rfl,hc,hm,hat⟩
 ·simp at h0
 unfold maxLen at hm
 obtain ⟨_,hb,xs,hxs,hq⟩:=hat
 have hxl : xs.length = E.length * 3:=by rw [hq.len,rowsQ_ln ln_qTy]
 obtain ⟨j0,hj0,jz0,jz1,jz2⟩:=info_parts info_ty
 have HJ0:=hid hj0
 have HJZ0:=hid jz0
 have HJZ1:=hid jz1
 have HJZ2:=hid jz2
 obtain ⟨w1,hw1⟩ : ∃ w1,w1 = w.alloc (.cells #[] 24):=⟨_,rfl⟩
 have HF1 : Hid (Fr [] w w1):=hid (by rw [hw1];exact (Fr.refl _ _).alloc _)
 have HO1 : Hid (OwnL w1 (fun k => k < w.heap.size) w.heap.size 24 3 0 .nil (.slice (some ⟨w.heap.size,0,none⟩) 0 0)):=hid (OwnL.empty _ (Nat.le_refl _) (by rw [hw1];exact Blk.new _ _ _))
 have HC : Hid (∀ j u,xs[j]? = some u → w1.cell? ((⟨b,o,none⟩ : Addr).add j) = some u):=hid (fun j u hj => by
  rw [addr_add,HF1.out.cell hb (by simp),hxs j (by have:=(List.getElem?_eq_some_iff.1 hj).1;omega),hj])
 have HQ : Hid (InN w1 (fun k => k < w.heap.size ∧ some k ≠ (Value.slice (some ⟨w.heap.size,0,none⟩) 0 0).ownBlock) (rowsQ qTy E) xs):=hid (hq.mono (fun k _ hk => ⟨⟨hk,by simp [Value.ownBlock];omega⟩,Nat.lt_of_lt_of_le hk HF1.out.size,HF1.out.block k hk (by simp)⟩))
 have HZ : Hid (w.heap.size ≤ w1.heap.size):=hid HF1.out.size
 have HXL:=hid hxl
 have q22 : ∀ (w : World) (a : Option Addr) (n c n' c' : Nat),(binOp .eql 22 (.slice a n c) (.slice none n' c')).run Try.prog w = .ok (.bool a.isNone) w:=fun w a n c n' c' => Lib.run_eql_slice_nil w _ _ a n c n' c' Try.underlying22
 clear hv hxs hq hxl hj0 jz0 jz1 jz2
 go_enter Try.func78,Try.ntmps78
 go_wp2_with (at_builtin;go_loud (rw [← hw1];refine wpList_append_ownl _ rfl _ _ 22 rfl (fun k => k < w.heap.size) w.heap.size 24 j0 _ 3 40 Try.underlying22 HJ0.out HJZ0.out HJZ1.out HJZ2.out rfl (by decide) _ 0 E.length .nil (rowsQ qTy E) rfl HO1.out ⟨b,o,none⟩ cap xs rfl HXL.out HC.out HQ.out (by omega) (by decide) HZ.out ?_;intro v' w2 hL2 hg2 hv2;have HL2:=hid hL2;have HG2:=hid hg2;clear hL2 hg2 hv2))
 go_ret
 have hL2:=HL2.out
 rw [Nat.zero_add] at hL2
 exact ⟨_,rfl,hL2.inn2 (fun _ _ _ => trivial) (fun _ _ => trivial),HF1.out.grown HG2.out (fun k hk => .inr (by cases hk;exact Nat.le_refl _))⟩
set_option maxRecDepth 100000 in
set_option maxHeartbeats 1600000 in
theorem apply_any (E : List Ty) (v : Value) (pE pA pF : Nat) (w1 : World) (hA : AppV w1 E v pE pA pF) (hE : ∀ x ∈ E,size x ≤ 100000) : ∀ (f : Nat) (t r : Ty),app E f t = some r → size t ≤ 100000 → ∀ (cs : List Value) (w : World),Lat w1 w → TyV w (fun _ => True) t cs →
  Calls Try.prog 81 #[.agg cs.toArray,.pointer (some ⟨pF,0,none⟩)] w (NewP r w):=by
 intro f
 induction f with
 | zero => intro t r h;simp [app] at h
 | succ f ih =>
  intro t r hr hs cs w hL h
  rw [app] at hr
  obtain ⟨q,hq,rfl⟩ : ∃ q,mapS (fun (_ : Unit) a => appStep E (app E f) a) () t = some q ∧ q.2 = r:=by
   cases h1 : mapS (fun (_ : Unit) a => appStep E (app E f) a) () t with
   | none => simp [h1] at hr
   | some q => rw [h1] at hr;simp only [Option.some.injEq] at hr;exact ⟨q,rfl,hr⟩
  have HM:=hid (fun (w : World) (cs : List Value) (hL : Lat w1 w) (h : TyV w (fun _ => True) t cs) => mapped_any 79 #[.pointer (some ⟨pE,0,none⟩),.pointer (some ⟨pA,0,none⟩)] w1.heap.size [] (fun _ => True) (fun (_ : Unit) (w : World) => Lat w1 w) (fun _ a => appStep E (app E f) a) enters_app1 (kept_lat w1 _) (size t) t (Nat.le_refl _) hs
   (fun a _ s cs w r hl ht hr => app1_any E v pE pA pF w1 w hA hl (app E f) (fun x r hx hr cs w hl ht => ih x r hr (hE x hx) cs w hl ht) a cs ht r hr) () cs w q hL h hq)
  obtain ⟨p,c,rfl,_⟩:=h.shape
  have HT:=hid h
  have HL:=hid hL
  have hA2:=hA.lat hL
  have s0 : w.cell? ⟨pF,0,none⟩ = some (.func (.func 79) #[] #[.pointer (some ⟨pE,0,none⟩),.pointer (some ⟨pA,0,none⟩)]):=hA2.f.cell 0
  have hz : pF < w.heap.size:=hA2.f.lt
  obtain ⟨w2,hw2⟩ : ∃ w2,w2 = (w.alloc (.cells #[.int .i64 (kd t),.int .i64 (nm t),.slice p (ar t).length c] 24)).alloc (.cells #[.int .i64 0,.int .i64 0,.slice none 0 0] 24):=⟨_,rfl⟩
  have HB1 : Hid (Blk w2 (w.heap.size + 1) 24 #[.int .i64 0,.int .i64 0,.slice none 0 0]):=hid (by rw [hw2];exact Blk.new_at (by simp))
  have HF0 : Hid (Fr [] w w2):=hid (by rw [hw2];exact ((Fr.refl _ _).alloc _).alloc _)
  clear h hL hA2 hr hq ih hA
  go_enter Try.func81,Try.ntmps81
  go_wp2_with fail
  rw [← hw2]
  clear hw2 s0 hz
  refine (HM.out w2 _ (HL.out.fr HF0.out) (HT.out.keep0 HF0.out)).mono ?_
  intro e w3 hp
  obtain ⟨hf3,ds,rfl,hty⟩:=hp.new
  obtain ⟨p2,c2,rfl,_⟩:=hty.shape
  have HBs:=HB1.out.keep hf3 (by simp)
  have hbl : w.heap.size + 1 < w2.heap.size:=HB1.out.lt
  obtain ⟨q1,q2⟩:=NewP.stored (b:=w.heap.size + 1) (by omega) hbl HBs (HF0.out.trans hf3) hty
  have Q2:=hid q2
  have c0 : w3.cell? ⟨w.heap.size + 1,0,none⟩ = some (.int .i64 0):=HBs.cell 0
  have c1 : w3.cell? ⟨w.heap.size + 1,1,none⟩ = some (.int .i64 0):=HBs.cell 1
  have c2' : w3.cell? ⟨w.heap.size + 1,2,none⟩ = some (.slice none 0 0):=HBs.cell 2
  have f0 : w3.frozen? ⟨w.heap.size + 1,0,none⟩ = false:=HBs.frozen 0
  have f1 : w3.frozen? ⟨w.heap.size + 1,1,none⟩ = false:=HBs.frozen 1
  have f2 : w3.frozen? ⟨w.heap.size + 1,2,none⟩ = false:=HBs.frozen 2
  have hle : w.heap.size + 1 < w3.heap.size:=HBs.lt
  have D0:=hid (q1.cell 0)
  have D1:=hid (q1.cell 1)
  have D2:=hid (q1.cell 2)
  clear q1 q2 HBs hp hf3 hty
  go_wp2_with fail
  have d0:=D0.out
  have d1:=D1.out
  have d2:=D2.out
  exact bodyPost_ret (v:=.agg #[.int .i64 (kd q.2),.int .i64 (nm q.2),.slice p2 (ar q.2).length c2]) (by simp [results,Try.results81,go_sem,d0,d1,d2]) rfl Q2.out
def ApplP (E : List Ty) (w : World) (e : Ending) (w' : World) : Prop:=∃ pE pA pF v,e = .returned (.func (.func 81) #[] #[.pointer (some ⟨pF,0,none⟩)]) ∧ AppV w' E v pE pA pF ∧ Fr [] w w'
theorem run_makeApp1 (w : World) (a b : Value) : (Instr.makeFunc (.func 79) #[] #[a,b]).run Try.prog w = .ok (.func (.func 79) #[] #[a,b]) w:=rfl
theorem run_makeApp2 (w : World) (a : Value) : (Instr.makeFunc (.func 81) #[] #[a]).run Try.prog w = .ok (.func (.func 81) #[] #[a]) w:=rfl
set_option maxHeartbeats 1600000 in
theorem application_any (E : List Ty) (v : Value) (w : World) (hv : TysV w (fun _ => True) E v) (h0 : 0 < E.length) (hl : E.length ≤ 100000) : Calls Try.prog 55 #[v] w (ApplP E w):=by
 have HV:=hid hv
 have hmf1:=run_makeApp1
 have hmf2:=run_makeApp2
 obtain ⟨p,c,rfl⟩:=hv.shape
 clear hv
 go_enter Try.func55,Try.ntmps55
 go_wp2_with fail
 refine (clone_any E _ w HV.out h0 hl).mono ?_
 rintro e w2 ⟨v2,rfl,hv2,hf2⟩
 obtain ⟨p2,c2,rfl⟩:=hv2.shape
 have HV2:=hid hv2
 have HF2:=hid hf2
 clear hv2 hf2
 go_wp2_with fail
 go_ret
 have hf4 : Fr [] w2 (((w2.alloc (.cells #[.slice p2 E.length c2] 22)).alloc (.cells #[.func (.func 81) #[] #[.pointer (some ⟨w2.heap.size + 1 + 1,0,none⟩)]] 57)).alloc (.cells #[.func (.func 79) #[] #[.pointer (some ⟨w2.heap.size,0,none⟩),.pointer (some ⟨w2.heap.size + 1,0,none⟩)]] 79)):=(((Fr.refl _ _).alloc _).alloc _).alloc _
 exact ⟨_,_,_,_,rfl,⟨((Blk.new _ _ _).alloc _).alloc _,(Blk.new_at (by simp)).alloc _,Blk.new_at (by simp),HV2.out.keep0 hf4⟩,HF2.out.trans hf4⟩
open Go.RowKit Go.Lib Go.Maps
open Un (kd nm ar size sizes)
def IsTyV (v : Value) : Prop:=∃ a b p n c,v = .agg #[.int .i64 a,.int .i64 b,.slice p n c]
open Classical in
noncomputable def tyElem (v : Value) : Option (DataW Value × List MemPlace):=if IsTyV v then some (.held v,[]) else none
theorem tyElem_mk {v : Value} (h : IsTyV v) : tyElem v = some (.held v,[]):=by unfold tyElem;rw [if_pos h]
theorem tyElem_inv {v : Value} {y : DataW Value × List MemPlace} (h : tyElem v = some y) : IsTyV v ∧ y = (.held v,[]):=by
 unfold tyElem at h
 split at h
 ·rename_i hv
  simp only [Option.some.injEq] at h
  exact ⟨hv,h.symm⟩
 ·cases h
def zeroTyV : Value:=.agg #[.int .i64 0,.int .i64 0,.slice none 0 0]
theorem isTy_zero : IsTyV zeroTyV:=⟨_,_,_,_,_,rfl⟩
theorem TyV.isTy {w : World} {N : Nat → Prop} {t : Ty} {cs : List Value} (h : TyV w N t cs) : IsTyV (.agg cs.toArray):=by
 obtain ⟨p,c,rfl,_⟩:=h.shape
 exact ⟨_,_,_,_,_,rfl⟩
theorem zero_ty (w : World) : (zeroValue 24).run Try.prog w = .ok zeroTyV w:=by kernel_rfl
def HoldsTy (w : World) (N : Nat → Prop) (D : DataW Value) (i : Int) (o : Option Ty) : Prop:=match o with
 | none => Maps.has D (.int .i64 i) = false
 | some t => Maps.has D (.int .i64 i) = true ∧ ∃ cs : List Value,(∀ z,D.atKey (.int .i64 i) z = .held (.agg cs.toArray)) ∧ TyV w N t cs
def MapTy (w : World) (N : Nat → Prop) (m n : Nat) (f : Int → Option Ty) : Prop:=
 ∃ D : DataW Value,w.ownsMap Try.prog 3 tyElem m n D ∧ ∀ i : Int,(Lit.int .i64 i).wf = true → HoldsTy w N D i (f i)
theorem MapTy.made (w : World) (N : Nat → Prop) : MapTy (w.alloc (.map #[] 0)) N w.heap.size 0 (fun _ => none):=⟨_,World.ownsMap_made _ _ _ _,fun i _ => rfl⟩
theorem MapTy.lt {w : World} {N : Nat → Prop} {m n : Nat} {f : Int → Option Ty} (h : MapTy w N m n f) : m < w.heap.size:=by obtain ⟨_,h,_⟩:=h;exact h.lt
theorem HoldsTy.keep {w w' : World} {N : Nat → Prop} {D : DataW Value} {i : Int} {o : Option Ty} (h : HoldsTy w N D i o) {X : List Nat} (hf : Fr X w w') (hX : ∀ k ∈ X,¬ N k) : HoldsTy w' N D i o:=by
 cases o with
 | none => exact h
 | some t =>
  obtain ⟨h1,cs,h2,h3⟩:=h
  exact ⟨h1,cs,h2,h3.keep hf hX⟩
theorem MapTy.keep {w w' : World} {N : Nat → Prop} {m n : Nat} {f : Int → Option Ty} (h : MapTy w N m n f) {X : List Nat} (hf : Fr X w w') (hm : m ∉ X) (hX : ∀ k ∈ X,¬ N k) : MapTy w' N m n f:=by
 have hl:=h.lt
 obtain ⟨D,⟨es,clock,hb,r⟩,hD⟩:=h
 exact ⟨D,⟨es,clock,(hf.block m hl hm).trans hb,r⟩,fun i hi => (hD i hi).keep hf hX⟩
theorem MapTy.mono {w : World} {N : Nat → Prop} {m n n' : Nat} {f : Int → Option Ty} (h : MapTy w N m n f) (hn : n ≤ n') : MapTy w N m n' f:=by
 obtain ⟨D,h,hD⟩:=h
 exact ⟨D,h.mono hn,hD⟩
section
variable (w : World) {ops : Array Oper} {rest : List Oper} {o : Oper} {a : Act} {Q : Exit → Act → World → Prop}
theorem wpList_look_none (hg : o.guard = none) (m x : Operand) (t : TypeId) (hop : o.op = Op.lookup t m x true) (ht : Try.prog.underlying t = some (.map 3 24)) (N : Nat → Prop) (b n : Nat) (f : Int → Option Ty)
  (hm : a.eval m = .map (some b)) (hown : MapTy w N b n f) (i : Int) (hx : a.eval x = .int .i64 i) (hi : (Lit.int .i64 i).wf = true) (hf : f i = none)
  (hK : wpList Try.prog ops Q rest (a.put o.dst (.tuple #[.agg #[.int .i64 0,.int .i64 0,.slice none 0 0],.bool false])) w) : wpList Try.prog ops Q (o :: rest) a w:=by
 obtain ⟨D,hD,hh⟩:=hown
 have h1:=hh i hi
 rw [hf] at h1
 refine wpList_lookup_own_ok w hg m x t hop _ _ keyed_int ht tyElem (zero_ty w) _ _ (tyElem_mk isTy_zero) b n D hm hD _ _ hx (keyOf_int_mk Try.underlying3 hi) (fun v ps hv => ?_)
 rw [atKey_of_not_has h1] at hv
 have h2:=(tyElem_inv hv).2
 simp only [Prod.mk.injEq,DataW.held.injEq] at h2
 rw [h1,← h2.1]
 exact hK
theorem wpList_look_some (hg : o.guard = none) (m x : Operand) (t : TypeId) (hop : o.op = Op.lookup t m x true) (ht : Try.prog.underlying t = some (.map 3 24)) (N : Nat → Prop) (b n : Nat) (f : Int → Option Ty)
  (hm : a.eval m = .map (some b)) (hown : MapTy w N b n f) (i : Int) (hx : a.eval x = .int .i64 i) (hi : (Lit.int .i64 i).wf = true) (y : Ty) (hf : f i = some y)
  (hK : ∀ p c,TyV w N y [.int .i64 (kd y),.int .i64 (nm y),.slice p (ar y).length c] → wpList Try.prog ops Q rest (a.put o.dst (.tuple #[.agg #[.int .i64 (kd y),.int .i64 (nm y),.slice p (ar y).length c],.bool true])) w) : wpList Try.prog ops Q (o :: rest) a w:=by
 obtain ⟨D,hD,hh⟩:=hown
 have h1:=hh i hi
 rw [hf] at h1
 obtain ⟨h1,cs,h2,h3⟩:=h1
 refine wpList_lookup_own_ok w hg m x t hop _ _ keyed_int ht tyElem (zero_ty w) _ _ (tyElem_mk isTy_zero) b n D hm hD _ _ hx (keyOf_int_mk Try.underlying3 hi) (fun v ps hv => ?_)
 rw [h2] at hv
 have h4:=(tyElem_inv hv).2
 simp only [Prod.mk.injEq,DataW.held.injEq] at h4
 rw [h1,← h4.1]
 obtain ⟨p,c,rfl,_⟩:=h3.shape
 exact hK p c h3
theorem wpList_put_ty (hg : o.guard = none) (m x v : Operand) (t : TypeId) (hop : o.op = Op.mapUpdate t m x v) (ht : Try.prog.underlying t = some (.map 3 24)) (N : Nat → Prop) (b n : Nat) (f : Int → Option Ty)
  (hm : a.eval m = .map (some b)) (hown : MapTy w N b n f) (hn : n < 9223372036854775807) (i : Int) (y : Ty) (cs : List Value) (hx : a.eval x = .int .i64 i) (hv : a.eval v = .agg cs.toArray) (hi : (Lit.int .i64 i).wf = true) (hy : TyV w N y cs) (hNb : ¬ N b)
  (hK : ∀ w',MapTy w' N b (n + 1) (fun j => if j = i then some y else f j) → Fr [b] w w' → wpList Try.prog ops Q rest (a.put o.dst undef) w') : wpList Try.prog ops Q (o :: rest) a w:=by
 obtain ⟨D,hD,hf⟩:=hown
 have hik : WideAt.IsKeyLit (.int .i64 i):=trivial
 refine wpList_mapUpdate_own w hg m x v t hop _ _ keyed_int ht _ b n D hm hD (by unfold maxLen;omega) _ _ _ hx hv (keyOf_int_mk Try.underlying3 hi) (.held (.agg cs.toArray)) [] (tyElem_mk hy.isTy) (fun w' h1 h2 => ?_)
 have hfr : Fr [b] w w':=⟨h2.os,h2.tape,h2.output,h2.size,fun k hk hx => h2.block k hk (fun e => hx (by simp at e;simp [e]))⟩
 refine hK w' ⟨_,h1,fun j hj => ?_⟩ hfr
 by_cases e : j = i
 ·subst e
  have hif : (fun k => if k = j then some y else f k) j = some y:=if_pos rfl
  rw [hif]
  exact ⟨has_put_same hD.isMap hik _,cs,fun z => atKey_put_same hD.isMap hik _ _,hy.keep hfr (by simpa using hNb)⟩
 ·have hif : (fun k => if k = i then some y else f k) j = f j:=if_neg e
  rw [hif]
  have hne : (Lit.int .i64 j) ≠ .int .i64 i:=by simpa using e
  have h3:=(hf j hj).keep hfr (by simpa using hNb)
  revert h3
  cases f j with
  | none => intro h3;unfold HoldsTy at h3 ⊢;simp only at h3 ⊢;rw [has_put_other hne];exact h3
  | some u =>
   rintro ⟨h4,ds,h5,h6⟩
   exact ⟨by rw [has_put_other hne];exact h4,ds,fun z => by rw [atKey_put_other hne];exact h5 z,h6⟩
end
def keyInt : Lit → Int
 | .int _ i => i
 | _ => 0
theorem ownsMap_keys {H : Type} {R : Value → Option (DataW H × List MemPlace)} {w : World} {b n : Nat} {D : DataW H} (h : w.ownsMap Try.prog 3 R b n D) :
  ∃ keys : List Int,keys.Nodup ∧ (∀ i,i ∈ keys ↔ ((Lit.int .i64 i).wf = true ∧ Maps.has D (.int .i64 i) = true)) ∧ keys.length = Maps.size D ∧ w.ownsMap Try.prog 3 R b keys.length D:=by
 obtain ⟨es,clock,hb,F,hs,rfl⟩:=h
 obtain ⟨L,hL⟩ : ∃ L,L = es.toList.map (WideElems.rg Try.prog 3 R):=⟨_,rfl⟩
 have hlen : L.length = es.size:=by rw [hL];simp
 have hint : ∀ p ∈ L,∃ i,p.1 = .int .i64 i ∧ (Lit.int .i64 i).wf = true:=by
  intro p hp
  rw [hL] at hp
  obtain ⟨v,hv⟩:=fit_keys F p hp
  obtain ⟨x,_,h2,h3⟩:=Maps.keyOf_int_inv Try.underlying3 hv
  exact ⟨x,h2,h3⟩
 have hap : L.Pairwise (fun p q => p.1 ≠ q.1):=by rw [hL];exact fit_apart keyed_int F
 rw [← hL]
 have hk : (L.map fun p => keyInt p.1).length = es.size:=by simp [hlen]
 refine ⟨L.map fun p => keyInt p.1,?_,fun i => ?_,?_,⟨es,clock,hb,F,by rw [hk];exact Nat.le_refl _,by rw [hL]⟩⟩
 ·unfold List.Nodup
  rw [List.pairwise_map]
  have : L.Pairwise (fun p q => p ∈ L ∧ q ∈ L ∧ p.1 ≠ q.1):=List.Pairwise.imp_of_mem (fun ha hb h => ⟨ha,hb,h⟩) hap
  refine this.imp (fun {p q} hh e => ?_)
  obtain ⟨ha,hb,hne⟩:=hh
  obtain ⟨i,h1,_⟩:=hint p ha
  obtain ⟨j,h2,_⟩:=hint q hb
  rw [h1,h2] at hne e
  simp only [keyInt] at e
  exact hne (by rw [e])
 ·rw [has_eq,List.any_eq_true]
  constructor
  ·intro hi
   obtain ⟨p,hp,rfl⟩:=List.mem_map.1 hi
   obtain ⟨j,h1,h2⟩:=hint p hp
   rw [h1]
   refine ⟨h2,p,mem_sorted.2 hp,?_⟩
   rw [h1]
   exact WideAt.sameKey_self trivial
  ·rintro ⟨_,p,hp,hs⟩
   have hp:=mem_sorted.1 hp
   obtain ⟨j,h1,h2⟩:=hint p hp
   refine List.mem_map.2 ⟨p,hp,?_⟩
   rw [h1] at hs ⊢
   by_cases e : (Lit.int .i64 j) = .int .i64 i
   ·simp only [Lit.int.injEq,true_and] at e
    exact e
   ·rw [sameKey_ne e] at hs;cases hs
 ·rw [Go.Maps.size_eq,length_sorted,hk,hlen]
theorem MapTy.bound {w : World} {N : Nat → Prop} {m n : Nat} {f : Int → Option Ty} (h : MapTy w N m n f) (K : List Int) (hK : ∀ i,(f i).isSome = true → i ∈ K) : MapTy w N m K.length f:=by
 obtain ⟨D,hD,hf⟩:=h
 obtain ⟨keys,h1,h2,_,h3⟩:=ownsMap_keys hD
 refine ⟨D,h3.mono (h1.length_le_of_subset fun i hi => hK i ?_),hf⟩
 obtain ⟨a,b⟩:=(h2 i).1 hi
 have h4:=hf i a
 revert h4
 cases f i with
 | none => intro h4;unfold HoldsTy at h4;rw [h4] at b;cases b
 | some u => intro _;rfl
open Un (kd nm ar size sizes same)
namespace Un
mutual
def mt (n : Int) : Ty → Ty → (Int → Option Ty) → (Int → Option Ty) × Bool
 | .mk k i al,t,s => if k = 5 then (match s i with
   | some e => (s,same e t)
   | none => ((fun j => if j = i then some t else s j),decide (0 ≤ i) && decide (i < n)))
  else if (k == kd t && i == nm t) then (if al.length = (ar t).length then mts n al (ar t) s else (s,false)) else (s,false)
def mts (n : Int) : List Ty → List Ty → (Int → Option Ty) → (Int → Option Ty) × Bool
 | [],_,s => (s,true)
 | _ :: _,[],s => (s,true)
 | a :: r,b :: r',s => if (mt n a b s).2 then mts n r r' (mt n a b s).1 else ((mt n a b s).1,false)
end
theorem mts_eq (n : Int) : ∀ (l l' : List Ty) (s : Int → Option Ty),mts n l l' s = eqS (fun s a b => mt n a b s) s l l'
 | [],_,s => by rw [mts,eqS];intro _ _ _ _ h;cases h
 | _ :: _,[],s => by rw [mts,eqS];intro _ _ _ _ _ h;cases h
 | a :: r,b :: r',s => by rw [mts,eqS,mts_eq n r r']
theorem mt_eq (n : Int) (p t : Ty) (s : Int → Option Ty) : mt n p t s = if kd p = 5 then (match s (nm p) with
   | some e => (s,same e t)
   | none => ((fun j => if j = nm p then some t else s j),decide (0 ≤ nm p) && decide (nm p < n)))
  else if (kd p == kd t && nm p == nm t) then eqF (fun s a b => mt n a b s) s (ar p) (ar t) else (s,false):=by
 cases p
 rw [mt]
 unfold eqF
 rw [← mts_eq]
 rfl
mutual
def pars : Ty → List Int
 | .mk k i al => if k = 5 then [i] else parss al
def parss : List Ty → List Int
 | [] => []
 | a :: r => pars a ++ parss r
end
theorem pars_eq (t : Ty) : pars t = if kd t = 5 then [nm t] else parss (ar t):=by cases t;rw [pars];rfl
theorem pars_mem {a : Ty} {i : Int} : ∀ {l : List Ty},a ∈ l → i ∈ pars a → i ∈ parss l
 | b :: r,h,hi => by
  rw [parss,List.mem_append]
  rcases List.mem_cons.1 h with rfl | h
  ·exact .inl hi
  ·exact .inr (pars_mem h hi)
end Un
open Un (mt pars)
structure FoundI (N : Nat → Prop) (K : List Int) (n : Int) (m pM pMap pPar : Nat) (s : Int → Option Ty) (w : World) : Prop where
 map : MapTy w N m K.length s
 keys : ∀ i,(s i).isSome = true → i ∈ K
 cM : Blk w pM 42 #[.func (.func 46) #[] #[.pointer (some ⟨pM,0,none⟩),.pointer (some ⟨pMap,0,none⟩),.pointer (some ⟨pPar,0,none⟩)]]
 cMap : Blk w pMap 71 #[.map (some m)]
 cPar : Blk w pPar 3 #[.int .i64 n]
 ne : pM ≠ m ∧ pMap ≠ m ∧ pPar ≠ m
theorem FoundI.keep0 {N : Nat → Prop} {K : List Int} {n : Int} {m pM pMap pPar : Nat} {s : Int → Option Ty} {w w' : World} (h : FoundI N K n m pM pMap pPar s w) (hf : Fr [] w w') : FoundI N K n m pM pMap pPar s w':=
 ⟨h.map.keep hf (by simp) (by simp),h.keys,h.cM.keep hf (by simp),h.cMap.keep hf (by simp),h.cPar.keep hf (by simp),h.ne⟩
theorem enters_match1 : Enters 46:=fun _ _ => by kernel_rfl
theorem caps3 (x y a b c : Value) : (#[x,y] ++ #[a,b,c] : Array Value) = #[x,y,a,b,c]:=by simp
set_option maxRecDepth 100000 in
set_option maxHeartbeats 3200000 in
theorem match1_any (N : Nat → Prop) (K : List Int) (n : Int) (m pM pMap pPar : Nat) (hNm : ¬ N m) (hKl : K.length ≤ 100000) : ∀ (z : Nat) (a : Ty),size a ≤ z → (∀ i ∈ pars a,(Lit.int .i64 i).wf = true ∧ i ∈ K) → ∀ (b : Ty) (s : Int → Option Ty) (cs ds : List Value) (w : World),FoundI N K n m pM pMap pPar s w → TyV w N a cs → TyV w N b ds →
  Calls Try.prog 46 #[.agg cs.toArray,.agg ds.toArray,.pointer (some ⟨pM,0,none⟩),.pointer (some ⟨pMap,0,none⟩),.pointer (some ⟨pPar,0,none⟩)] w (EqP [m] (FoundI N K n m pM pMap pPar) (mt n a b s) w):=by
 have HNM:=hid hNm
 intro z
 induction z with
 | zero => intro a h;exact absurd (Un.size_pos a) (by omega)
 | succ z ih =>
  intro a hz hpar b s cs ds w hI ha hb
  have HI:=hid hI
  have HA:=hid ha
  have HB:=hid hb
  obtain ⟨p,c,rfl,hax⟩:=ha.shape
  obtain ⟨p',c',rfl,hbx⟩:=hb.shape
  have HAX:=hid hax
  have HBX:=hid hbx
  have hE1:=Un.mt_eq n a b s
  rw [Un.pars_eq] at hpar
  obtain ⟨w1,hw1⟩ : ∃ w1,w1 = (w.alloc (.cells #[.int .i64 (kd a),.int .i64 (nm a),.slice p (ar a).length c] 24)).alloc (.cells #[.int .i64 (kd b),.int .i64 (nm b),.slice p' (ar b).length c'] 24):=⟨_,rfl⟩
  have HF0 : Hid (Fr [] w w1):=hid (by rw [hw1];exact ((Fr.refl _ _).alloc _).alloc _)
  have HB0 : Hid (Blk w1 w.heap.size 24 #[.int .i64 (kd a),.int .i64 (nm a),.slice p (ar a).length c]):=hid (by rw [hw1];exact (Blk.new _ _ _).alloc _)
  have HB1 : Hid (Blk w1 (w.heap.size + 1) 24 #[.int .i64 (kd b),.int .i64 (nm b),.slice p' (ar b).length c']):=hid (by rw [hw1];exact Blk.new_at (by simp))
  by_cases h5 : kd a = 5
  ·have e1 : (kd a != 5) = false:=by simp [h5]
   rw [if_pos h5] at hE1 hpar
   obtain ⟨hwf,hkK⟩:=hpar (nm a) (by simp)
   subst hw1
   have HI1:=hid (HI.out.keep0 HF0.out)
   have q2 : w.cell? ⟨pMap,0,none⟩ = some (.map (some m)):=HI.out.cMap.cell 0
   have l2 : pMap < w.heap.size:=HI.out.cMap.lt
   have l21 : pMap < w.heap.size + 1:=by omega
   have l22 : pMap < w.heap.size + 1 + 1:=by omega
   rcases hs : s (nm a) with _ | e0
   ·rw [hs] at hE1
    simp only at hE1
    have HE1:=hid hE1
    have HKK:=hid hkK
    clear hI ha hb hax hbx ih hz hpar hE1 h5 hkK
    cases e2 : decide (0 ≤ nm a) with
    | false =>
     have E2:=hid e2
     go_enter Try.func46,Try.ntmps46
     go_wp2_with (first | (at_lookup;refine wpList_look_none _ rfl _ _ 71 rfl Try.underlying71 N m K.length s rfl HI1.out.map (nm a) rfl hwf hs ?_) | (at_mapUpdate;go_loud (refine wpList_put_ty _ rfl _ _ _ 71 rfl Try.underlying71 N m K.length s rfl (HI1.out.keep0 ((Fr.refl _ _).alloc _)).map (by omega) (nm a) b [.int .i64 (kd b),.int .i64 (nm b),.slice p' (ar b).length c'] rfl rfl hwf (HB.out.keep0 (HF0.out.alloc _)) hNm ?_;intro w3 hM3 hf3;have HM3:=hid hM3;have HF3:=hid hf3;have HF30:=hid (((HF0.out.alloc (.cells #[.int .i64 0,.int .i64 0,.slice none 0 0] 24)).nil [m]).trans hf3);have hnew : w.heap.size ∉ [m]:=(by simp only [List.mem_singleton];have:=HI.out.map.lt;omega);have HBB:=hid ((HB0.out.alloc (.cells #[.int .i64 0,.int .i64 0,.slice none 0 0] 24)).keep hf3 hnew);have HCP:=hid (HI.out.cPar.keep HF30.out (by simpa using HI.out.ne.2.2));clear hM3 hf3 hnew;have s1 : w3.cell? ⟨w.heap.size,1,none⟩ = some (.int .i64 (nm a)):=HBB.out.cell 1;have sl : w.heap.size < w3.heap.size:=HBB.out.lt;have r1 : w3.cell? ⟨pPar,0,none⟩ = some (.int .i64 n):=HCP.out.cell 0;have rl : pPar < w3.heap.size:=HCP.out.lt)))
     go_ret
     unfold EqP
     rw [HE1.out,E2.out]
     refine ⟨rfl,HF30.out,⟨HM3.out.bound K (fun i hi => ?_),fun i hi => ?_,HI.out.cM.keep HF30.out (by simpa using HI.out.ne.1),HI.out.cMap.keep HF30.out (by simpa using HI.out.ne.2.1),HCP.out,HI.out.ne⟩⟩
     ·by_cases e : i = nm a
      ·rw [e];exact HKK.out
      ·exact HI.out.keys i (by simpa [e] using hi)
     ·by_cases e : i = nm a
      ·rw [e];exact HKK.out
      ·exact HI.out.keys i (by simpa [e] using hi)
    | true =>
     have E2:=hid e2
     go_enter Try.func46,Try.ntmps46
     go_wp2_with (first | (at_lookup;refine wpList_look_none _ rfl _ _ 71 rfl Try.underlying71 N m K.length s rfl HI1.out.map (nm a) rfl hwf hs ?_) | (at_mapUpdate;go_loud (refine wpList_put_ty _ rfl _ _ _ 71 rfl Try.underlying71 N m K.length s rfl (HI1.out.keep0 ((Fr.refl _ _).alloc _)).map (by omega) (nm a) b [.int .i64 (kd b),.int .i64 (nm b),.slice p' (ar b).length c'] rfl rfl hwf (HB.out.keep0 (HF0.out.alloc _)) hNm ?_;intro w3 hM3 hf3;have HM3:=hid hM3;have HF3:=hid hf3;have HF30:=hid (((HF0.out.alloc (.cells #[.int .i64 0,.int .i64 0,.slice none 0 0] 24)).nil [m]).trans hf3);have hnew : w.heap.size ∉ [m]:=(by simp only [List.mem_singleton];have:=HI.out.map.lt;omega);have HBB:=hid ((HB0.out.alloc (.cells #[.int .i64 0,.int .i64 0,.slice none 0 0] 24)).keep hf3 hnew);have HCP:=hid (HI.out.cPar.keep HF30.out (by simpa using HI.out.ne.2.2));clear hM3 hf3 hnew;have s1 : w3.cell? ⟨w.heap.size,1,none⟩ = some (.int .i64 (nm a)):=HBB.out.cell 1;have sl : w.heap.size < w3.heap.size:=HBB.out.lt;have r1 : w3.cell? ⟨pPar,0,none⟩ = some (.int .i64 n):=HCP.out.cell 0;have rl : pPar < w3.heap.size:=HCP.out.lt)))
     go_ret
     unfold EqP
     rw [HE1.out,E2.out]
     refine ⟨rfl,HF30.out,⟨HM3.out.bound K (fun i hi => ?_),fun i hi => ?_,HI.out.cM.keep HF30.out (by simpa using HI.out.ne.1),HI.out.cMap.keep HF30.out (by simpa using HI.out.ne.2.1),HCP.out,HI.out.ne⟩⟩
     ·by_cases e : i = nm a
      ·rw [e];exact HKK.out
      ·exact HI.out.keys i (by simpa [e] using hi)
     ·by_cases e : i = nm a
      ·rw [e];exact HKK.out
      ·exact HI.out.keys i (by simpa [e] using hi)
   ·rw [hs] at hE1
    simp only at hE1
    have HE1:=hid hE1
    clear hI ha hb hax hbx ih hz hpar hE1 h5 hkK
    go_enter Try.func46,Try.ntmps46
    go_wp2_with (at_lookup;go_loud (refine wpList_look_some _ rfl _ _ 71 rfl Try.underlying71 N m K.length s rfl HI1.out.map (nm a) rfl hwf e0 hs ?_;intro p5 c5 hTe;have HTE:=hid hTe;clear hTe))
    refine (same_any N N (size e0) e0 (Nat.le_refl _) b _ _ _ (HTE.out.keep0 ((Fr.refl _ _).alloc _)) (HB.out.keep0 (HF0.out.alloc _))).mono ?_
    rintro e w2 ⟨rfl,hf2⟩
    have HF2:=hid ((HF0.out.alloc (.cells #[.int .i64 (kd e0),.int .i64 (nm e0),.slice p5 (ar e0).length c5] 24)).trans hf2)
    clear hf2
    go_wp2_with fail
    go_ret
    unfold EqP
    rw [HE1.out]
    exact ⟨rfl,HF2.out.nil _,HI.out.keep0 HF2.out⟩
  ·have e1 : (kd a != 5) = true:=by simp [h5]
   rw [if_neg h5] at hE1 hpar
   have HC : Hid (∀ (s : Int → Option Ty) (w : World),FoundI N K n m pM pMap pPar s w → TysV w N (ar a) (.slice p (ar a).length c) → TysV w N (ar b) (.slice p' (ar b).length c') → Calls Try.prog 48 #[.slice p (ar a).length c,.slice p' (ar b).length c',.func (.func 46) #[] #[.pointer (some ⟨pM,0,none⟩),.pointer (some ⟨pMap,0,none⟩),.pointer (some ⟨pPar,0,none⟩)]] w (EqP [m] (FoundI N K n m pM pMap pPar) (eqF (fun s a b => mt n a b s) s (ar a) (ar b)) w)):=hid (fun s w hI h1 h2 =>
    equalfunc_any 46 #[.pointer (some ⟨pM,0,none⟩),.pointer (some ⟨pMap,0,none⟩),.pointer (some ⟨pPar,0,none⟩)] [m] N N (FoundI N K n m pM pMap pPar) (fun s a b => mt n a b s) enters_match1 (by simpa using hNm) (by simpa using hNm) (fun s w w' h hf => h.keep0 hf) (ar a) (ar b)
     (fun x hx y hy s cs ds w hI hx' hy' => by
      rw [caps3]
      exact ih x (by have:=size_ar hx;omega) (fun i hi => hpar i (Un.pars_mem hx hi)) y s cs ds w hI hx' hy') _ _ s w hI h1 h2)
   have HE1:=hid hE1
   clear hI ha hb hax hbx ih hz hpar hE1 h5
   cases hsh : (kd a == kd b && nm a == nm b) with
   | false =>
    have HSH:=hid hsh
    clear hsh
    go_enter Try.func46,Try.ntmps46
    go_wp2_with fail
    rw [← hw1]
    clear hw1
    refine (samehead_any a b _ _ w1 N N (HA.out.keep0 HF0.out) (HB.out.keep0 HF0.out)).mono ?_
    rintro e w2 ⟨rfl,hf2⟩
    rw [HSH.out]
    have HF2:=hid (HF0.out.trans hf2)
    clear hf2
    go_wp2_with fail
    go_ret
    unfold EqP
    rw [HE1.out,HSH.out]
    exact ⟨rfl,HF2.out.nil _,HI.out.keep0 HF2.out⟩
   | true =>
    have HSH:=hid hsh
    clear hsh
    go_enter Try.func46,Try.ntmps46
    go_wp2_with fail
    rw [← hw1]
    clear hw1
    refine (samehead_any a b _ _ w1 N N (HA.out.keep0 HF0.out) (HB.out.keep0 HF0.out)).mono ?_
    rintro e w2 ⟨rfl,hf2⟩
    rw [HSH.out]
    have HF2:=hid (HF0.out.trans hf2)
    have HB02:=hid (HB0.out.keep hf2 (by simp))
    have HB12:=hid (HB1.out.keep hf2 (by simp))
    have HI2:=hid (HI.out.keep0 HF2.out)
    clear hf2
    have s2 : w2.cell? ⟨w.heap.size,2,none⟩ = some (.slice p (ar a).length c):=HB02.out.cell 2
    have t2 : w2.cell? ⟨w.heap.size + 1,2,none⟩ = some (.slice p' (ar b).length c'):=HB12.out.cell 2
    have q2 : w2.cell? ⟨pM,0,none⟩ = some (.func (.func 46) #[] #[.pointer (some ⟨pM,0,none⟩),.pointer (some ⟨pMap,0,none⟩),.pointer (some ⟨pPar,0,none⟩)]):=HI2.out.cM.cell 0
    have l0 : w.heap.size + 1 < w2.heap.size:=HB12.out.lt
    have l1 : w.heap.size < w2.heap.size:=HB02.out.lt
    have l2 : pM < w2.heap.size:=HI2.out.cM.lt
    go_wp2_with fail
    refine (HC.out s w2 HI2.out (HAX.out.keep0 HF2.out) (HBX.out.keep0 HF2.out)).mono ?_
    rintro e w3 ⟨rfl,hf3,hI3⟩
    have HF3:=hid ((HF2.out.nil [m]).trans hf3)
    have HI3:=hid hI3
    clear hf3 hI3 s2 t2 q2 l0 l1 l2
    go_wp2_with fail
    go_ret
    unfold EqP
    rw [HE1.out,HSH.out]
    exact ⟨rfl,HF3.out,HI3.out⟩
end Go.Proofs.Ytcdlnhfgehhkcaa
