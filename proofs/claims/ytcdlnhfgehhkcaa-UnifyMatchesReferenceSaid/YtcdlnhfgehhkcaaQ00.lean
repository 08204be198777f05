/- part of the proof -/
import Derived.WalkKit
import Derived.Deep.Draws
import Derived.ArgAppend
import Derived.Laws.OwnMore
import Derived.Maps.AppendAt
import Derived.Lib.Hide
import Derived.RegionTactic
import Derived.IntWalk
set_option linter.unusedVariables false
set_option linter.unusedSimpArgs false
set_option linter.unusedSectionVars false
namespace Go.Proofs.Ytcdlnhfgehhkcaa
open Go.RowKit
theorem alloc_new (w : World) (o : Obj) : (w.alloc o).heap[w.heap.size]? = some o:=by
 show (w.heap.push o)[w.heap.size]? = _
 simp
structure Fr (X : List Nat) (w w' : World) : Prop where
 os : w'.os = w.os
 tape : w'.tape = w.tape
 output : w'.output = w.output
 size : w.heap.size ≤ w'.heap.size
 block : ∀ k,k < w.heap.size → k ∉ X → w'.heap[k]? = w.heap[k]?
theorem Fr.refl (X : List Nat) (w : World) : Fr X w w:=⟨rfl,rfl,rfl,Nat.le_refl _,fun _ _ _ => rfl⟩
theorem Fr.trans {X : List Nat} {a b c : World} (h : Fr X a b) (k : Fr X b c) : Fr X a c:=
 ⟨k.os.trans h.os,k.tape.trans h.tape,k.output.trans h.output,Nat.le_trans h.size k.size,fun i hi hx => (k.block i (Nat.lt_of_lt_of_le hi h.size) hx).trans (h.block i hi hx)⟩
theorem Fr.mono {X Y : List Nat} {w w' : World} (h : Fr X w w') (hs : ∀ k,k < w.heap.size → k ∈ X → k ∈ Y) : Fr Y w w':=
 ⟨h.os,h.tape,h.output,h.size,fun k hk hn => h.block k hk (fun hx => hn (hs k hk hx))⟩
theorem Fr.drop {X : List Nat} {k : Nat} {w w' : World} (h : Fr (k :: X) w w') (hk : w.heap.size ≤ k) : Fr X w w':=
 h.mono (fun i hi hx => by rcases List.mem_cons.1 hx with rfl | hx;omega;exact hx)
theorem Fr.sub {X Y : List Nat} {w w' : World} (h : Fr X w w') (hs : ∀ k ∈ X,k ∈ Y ∨ w.heap.size ≤ k) : Fr Y w w':=
 h.mono (fun k hk hx => (hs k hx).elim id (fun h => absurd hk (by omega)))
theorem Fr.more {X : List Nat} (k : Nat) {w w' : World} (h : Fr X w w') : Fr (k :: X) w w':=h.mono (fun _ _ hx => List.mem_cons_of_mem _ hx)
theorem Fr.nil {w w' : World} (X : List Nat) (h : Fr [] w w') : Fr X w w':=h.mono (fun _ _ hx => by cases hx)
theorem Fr.alloc {X : List Nat} {a w : World} (h : Fr X a w) (o : Obj) : Fr X a (w.alloc o):=
 h.trans ⟨rfl,rfl,rfl,by simp,fun k hk _ => Below.heap_alloc _ _ _ hk⟩
theorem Fr.drew {X : List Nat} {a w : World} (h : Fr X a w) : Fr X a w.drew:=⟨h.os,h.tape,h.output,h.size,h.block⟩
theorem Fr.drewN {X : List Nat} {a w : World} (h : Fr X a w) (n : Nat) : Fr X a (w.drewN n):=⟨h.os,h.tape,h.output,h.size,h.block⟩
theorem Fr.setCell {X : List Nat} {a w : World} (h : Fr X a w) {p : Addr} (hp : p.block ∈ X ∨ a.heap.size ≤ p.block) (u : Value) : Fr X a (w.setCell p u):=by
 refine ⟨h.os,h.tape,h.output,by simp [World.setCell];exact h.size,fun k hk hx => ?_⟩
 rw [Below.heap_setCell _ _ _ _ (by rintro rfl;rcases hp with hp | hp;exact hx hp;omega)]
 exact h.block k hk hx
theorem Fr.grown {X : List Nat} {a w w' : World} {row : Option Nat} (h : Fr X a w) (hg : w.grownBy w' row) (hr : ∀ k,row = some k → k ∈ X ∨ a.heap.size ≤ k) : Fr X a w':=
 ⟨hg.os.trans h.os,hg.tape.trans h.tape,hg.output.trans h.output,Nat.le_trans h.size hg.size,fun k hk hx => (hg.block k (Nat.lt_of_lt_of_le hk h.size) (fun e => by rcases hr k e.symm with h | h;exact hx h;omega)).trans (h.block k hk hx)⟩
theorem Fr.below {w w' : World} (h : Fr [] w w') : Below w.heap.size w w':=⟨h.os,h.tape,h.output,h.size,fun k hk => h.block k hk (by simp)⟩
theorem Fr.cell {X : List Nat} {w w' : World} (h : Fr X w w') {k : Nat} (hk : k < w.heap.size) (hx : k ∉ X) (o : Nat) : w'.cell? ⟨k,o,none⟩ = w.cell? ⟨k,o,none⟩:=
 World.cell?_of_block (w:=w) (h.block k hk hx)
theorem Fr.frozen {X : List Nat} {w w' : World} (h : Fr X w w') {k : Nat} (hk : k < w.heap.size) (hx : k ∉ X) (o : Nat) : w'.frozen? ⟨k,o,none⟩ = w.frozen? ⟨k,o,none⟩:=
 World.frozen?_of_block (w:=w) (h.block k hk hx)
def Blk (w : World) (b : Nat) (T : Nat) (cs : Array Value) : Prop:=w.heap[b]? = some (.cells cs T (0,0))
theorem Blk.lt {w : World} {b T : Nat} {cs : Array Value} (h : Blk w b T cs) : b < w.heap.size:=(Array.getElem?_eq_some_iff.1 h).1
theorem Blk.cell {w : World} {b T : Nat} {cs : Array Value} (h : Blk w b T cs) (i : Nat) : w.cell? ⟨b,i,none⟩ = cs[i]?:=by
 unfold Blk at h;simp [World.cell?,h]
theorem Blk.frozen {w : World} {b T : Nat} {cs : Array Value} (h : Blk w b T cs) (i : Nat) : w.frozen? ⟨b,i,none⟩ = false:=by
 unfold Blk at h;simp [World.frozen?,h]
theorem Blk.new (w : World) (T : Nat) (cs : Array Value) : Blk (w.alloc (.cells cs T)) w.heap.size T cs:=alloc_new w _
theorem Blk.new_at {w : World} {b T : Nat} {cs : Array Value} (h : w.heap.size = b) : Blk (w.alloc (.cells cs T)) b T cs:=by subst h;exact Blk.new _ _ _
theorem Blk.keep {X : List Nat} {w w' : World} {b T : Nat} {cs : Array Value} (h : Blk w b T cs) (hf : Fr X w w') (hx : b ∉ X) : Blk w' b T cs:=(hf.block b h.lt hx).trans h
theorem Blk.alloc {w : World} {b T : Nat} {cs : Array Value} (h : Blk w b T cs) (o : Obj) : Blk (w.alloc o) b T cs:=(Below.heap_alloc _ _ _ h.lt).trans h
theorem Blk.set {w : World} {b T : Nat} {cs : Array Value} (h : Blk w b T cs) (i : Nat) (v : Value) : Blk (w.setCell ⟨b,i,none⟩ v) b T (cs.setIfInBounds i v):=by
 unfold Blk at *
 simp [World.setCell,Array.getElem?_modify,h]
theorem Blk.other {w : World} {b T : Nat} {cs : Array Value} (h : Blk w b T cs) {p : Addr} (hp : b ≠ p.block) (v : Value) : Blk (w.setCell p v) b T cs:=(Below.heap_setCell _ _ _ _ hp).trans h
inductive Q where
 | nil
 | int (n : Int) (r : Q)
 | any (r : Q)
 | sl (E : Nat) (size : Nat) (n : Nat) (q : Q) (r : Q)
def Q.app : Q → Q → Q
 | .nil,y => y
 | .int n r,y => .int n (r.app y)
 | .any r,y => .any (r.app y)
 | .sl E s n q r,y => .sl E s n q (r.app y)
theorem Q.app_nil : ∀ (x : Q),x.app .nil = x
 | .nil => rfl
 | .int n r => by rw [Q.app,Q.app_nil r]
 | .any r => by rw [Q.app,Q.app_nil r]
 | .sl E s n q r => by rw [Q.app,Q.app_nil r]
theorem Q.app_app : ∀ (x y z : Q),(x.app y).app z = x.app (y.app z)
 | .nil,_,_ => rfl
 | .int n r,y,z => by rw [Q.app,Q.app,Q.app,Q.app_app r]
 | .any r,y,z => by rw [Q.app,Q.app,Q.app,Q.app_app r]
 | .sl E s n q r,y,z => by rw [Q.app,Q.app,Q.app,Q.app_app r]
def Q.ln : Q → Nat
 | .nil => 0
 | .int _ r => r.ln + 1
 | .any r => r.ln + 1
 | .sl _ _ _ _ r => r.ln + 1
theorem Q.ln_app : ∀ x y : Q,(x.app y).ln = x.ln + y.ln
 | .nil,y => by simp [Q.app,Q.ln]
 | .int _ r,y => by simp [Q.app,Q.ln,Q.ln_app r];omega
 | .any r,y => by simp [Q.app,Q.ln,Q.ln_app r];omega
 | .sl _ _ _ _ r,y => by simp [Q.app,Q.ln,Q.ln_app r];omega
def rowsQ {α : Type} (f : α → Q) : List α → Q
 | [] => .nil
 | a :: l => (f a).app (rowsQ f l)
theorem rowsQ_snoc {α : Type} (f : α → Q) (a : α) : ∀ l : List α,rowsQ f (l ++ [a]) = (rowsQ f l).app (f a)
 | [] => by simp [rowsQ,Q.app_nil,Q.app]
 | b :: l => by rw [List.cons_append,rowsQ,rowsQ,rowsQ_snoc f a l,Q.app_app]
theorem rowsQ_one {α : Type} (f : α → Q) (a : α) : rowsQ f [a] = f a:=by simp [rowsQ,Q.app_nil]
theorem rowsQ_app {α : Type} (f : α → Q) (m : List α) : ∀ l : List α,rowsQ f (l ++ m) = (rowsQ f l).app (rowsQ f m)
 | [] => rfl
 | b :: l => by rw [List.cons_append,rowsQ,rowsQ,rowsQ_app f m l,Q.app_app]
theorem rowsQ_ln {α : Type} {f : α → Q} {s : Nat} (hs : ∀ a,(f a).ln = s) : ∀ l : List α,(rowsQ f l).ln = l.length * s
 | [] => by simp [rowsQ,Q.ln]
 | b :: l => by rw [rowsQ,Q.ln_app,hs,rowsQ_ln hs l,List.length_cons,Nat.succ_mul];omega
def InN (w : World) (N : Nat → Prop) : Q → List Value → Prop
 | .nil,cs => cs = []
 | .int n r,cs => ∃ c,cs = .int .i64 n :: c ∧ InN w N r c
 | .any r,cs => ∃ v c,cs = v :: c ∧ v.oneCell' = true ∧ InN w N r c
 | .sl E s n q r,cs => ∃ v c,cs = v :: c ∧ ((∃ p cap,v = .slice p 0 cap ∧ n = 0 ∧ InN w N q []) ∨
   ∃ b o cap xs,v = .slice (some ⟨b,o,none⟩) n cap ∧ 0 < n ∧ n ≤ cap ∧ cap ≤ maxLen ∧ N b ∧ b < w.heap.size ∧ xs.length = n * s ∧ (∀ j,j < n * s → w.cell? ⟨b,o + j,none⟩ = xs[j]?) ∧ InN w N q xs) ∧ InN w N r c
theorem InN.mono {w w' : World} {N N' : Nat → Prop} (hk : ∀ k,N k → k < w.heap.size → N' k ∧ k < w'.heap.size ∧ w'.heap[k]? = w.heap[k]?) : ∀ {q : Q} {cs : List Value},InN w N q cs → InN w' N' q cs
 | .nil,cs,h => by rw [InN] at *;exact h
 | .int n r,cs,h => by
  rw [InN] at *
  obtain ⟨c,e,h⟩:=h
  exact ⟨c,e,InN.mono hk h⟩
 | .any r,cs,h => by
  rw [InN] at *
  obtain ⟨v,c,e,ho,h⟩:=h
  exact ⟨v,c,e,ho,InN.mono hk h⟩
 | .sl E s n q r,cs,h => by
  rw [InN] at *
  obtain ⟨v,c,e,h1,h⟩:=h
  refine ⟨v,c,e,?_,InN.mono hk h⟩
  rcases h1 with ⟨p,cap,a,b,hq⟩ | ⟨b,o,cap,xs,e0,e1,e2,e3,hN,hb,e4,e5,hq⟩
  ·exact .inl ⟨p,cap,a,b,InN.mono hk hq⟩
  ·obtain ⟨k1,k2,k3⟩:=hk b hN hb
   refine .inr ⟨b,o,cap,xs,e0,e1,e2,e3,k1,k2,e4,fun j hj => ?_,InN.mono hk hq⟩
   rw [World.cell?_of_block (w:=w) k3]
   exact e5 j hj
theorem InN.keep {w w' : World} {N : Nat → Prop} {X : List Nat} {q : Q} {cs : List Value} (h : InN w N q cs) (hf : Fr X w w') (hX : ∀ k,k < w.heap.size → N k → k ∉ X) : InN w' N q cs:=
 h.mono (fun k hN hk => ⟨hN,Nat.lt_of_lt_of_le hk hf.size,hf.block k hk (hX k hk hN)⟩)
theorem InN.keep0 {w w' : World} {N : Nat → Prop} {q : Q} {cs : List Value} (h : InN w N q cs) (hf : Fr [] w w') : InN w' N q cs:=h.keep hf (fun _ _ _ => by simp)
theorem InN.weak {w : World} {N N' : Nat → Prop} {q : Q} {cs : List Value} (h : InN w N q cs) (hN : ∀ k,k < w.heap.size → N k → N' k) : InN w N' q cs:=h.mono (fun k h1 h2 => ⟨hN k h2 h1,h2,rfl⟩)
theorem InN.app {w : World} {N : Nat → Prop} : ∀ {x y : Q} {cs ds : List Value},InN w N x cs → InN w N y ds → InN w N (x.app y) (cs ++ ds)
 | .nil,y,cs,ds,h,h' => by rw [InN] at h;subst h;exact h'
 | .int n r,y,cs,ds,h,h' => by
  rw [InN] at h
  obtain ⟨c,rfl,h⟩:=h
  rw [Q.app,InN]
  exact ⟨c ++ ds,rfl,InN.app h h'⟩
 | .any r,y,cs,ds,h,h' => by
  rw [InN] at h
  obtain ⟨v,c,rfl,ho,h⟩:=h
  rw [Q.app,InN]
  exact ⟨v,c ++ ds,rfl,ho,InN.app h h'⟩
 | .sl E s n q r,y,cs,ds,h,h' => by
  rw [InN] at h
  obtain ⟨v,c,rfl,h1,h⟩:=h
  rw [Q.app,InN]
  exact ⟨v,c ++ ds,rfl,h1,InN.app h h'⟩
theorem InN.split {w : World} {N : Nat → Prop} : ∀ {x y : Q} {cs : List Value},InN w N (x.app y) cs → ∃ a b,cs = a ++ b ∧ InN w N x a ∧ InN w N y b
 | .nil,y,cs,h => ⟨[],cs,rfl,by rw [InN],h⟩
 | .int n r,y,cs,h => by
  rw [Q.app,InN] at h
  obtain ⟨c,rfl,h⟩:=h
  obtain ⟨a,b,rfl,h1,h2⟩:=InN.split h
  exact ⟨_ :: a,b,rfl,by rw [InN];exact ⟨a,rfl,h1⟩,h2⟩
 | .any r,y,cs,h => by
  rw [Q.app,InN] at h
  obtain ⟨v,c,rfl,ho,h⟩:=h
  obtain ⟨a,b,rfl,h1,h2⟩:=InN.split h
  exact ⟨_ :: a,b,rfl,by rw [InN];exact ⟨v,a,rfl,ho,h1⟩,h2⟩
 | .sl E s n q r,y,cs,h => by
  rw [Q.app,InN] at h
  obtain ⟨v,c,rfl,hv,h⟩:=h
  obtain ⟨a,b,rfl,h1,h2⟩:=InN.split h
  exact ⟨_ :: a,b,rfl,by rw [InN];exact ⟨_,a,rfl,hv,h1⟩,h2⟩
theorem InN.len {w : World} {N : Nat → Prop} : ∀ {q : Q} {cs : List Value},InN w N q cs → cs.length = q.ln
 | .nil,cs,h => by rw [InN] at h;subst h;rfl
 | .int n r,cs,h => by rw [InN] at h;obtain ⟨c,rfl,h⟩:=h;rw [List.length_cons,Q.ln,InN.len h]
 | .any r,cs,h => by rw [InN] at h;obtain ⟨v,c,rfl,_,h⟩:=h;rw [List.length_cons,Q.ln,InN.len h]
 | .sl E s n q r,cs,h => by rw [InN] at h;obtain ⟨v,c,rfl,_,h⟩:=h;rw [List.length_cons,Q.ln,InN.len h]
theorem InN.one {w : World} {N : Nat → Prop} : ∀ {q : Q} {cs : List Value},InN w N q cs → ∀ u ∈ cs,u.oneCell' = true
 | .nil,cs,h,u,hu => by rw [InN] at h;subst h;cases hu
 | .int n r,cs,h,u,hu => by
  rw [InN] at h
  obtain ⟨c,rfl,h⟩:=h
  rcases List.mem_cons.1 hu with rfl | hu
  ·rfl
  ·exact InN.one h u hu
 | .any r,cs,h,u,hu => by
  rw [InN] at h
  obtain ⟨v,c,rfl,ho,h⟩:=h
  rcases List.mem_cons.1 hu with rfl | hu
  ·exact ho
  ·exact InN.one h u hu
 | .sl E s n q r,cs,h,u,hu => by
  rw [InN] at h
  obtain ⟨v,c,rfl,h1,h⟩:=h
  rcases List.mem_cons.1 hu with rfl | hu
  ·rcases h1 with ⟨_,_,rfl,_⟩ | ⟨_,_,_,_,rfl,_⟩ <;> rfl
  ·exact InN.one h u hu
theorem InN.get {α : Type} {f : α → Q} {w : World} {N : Nat → Prop} {s : Nat} (hs : ∀ a,(f a).ln = s) : ∀ (l : List α) (xs : List Value) (i : Nat) (a : α),InN w N (rowsQ f l) xs → l[i]? = some a → ∃ ds,InN w N (f a) ds ∧ ds.length = s ∧ ∀ j,j < s → xs[i * s + j]? = ds[j]?
 | [],xs,i,a,h,hi => by simp at hi
 | b :: l,xs,i,a,h,hi => by
  rw [rowsQ] at h
  obtain ⟨c,d,rfl,h1,h2⟩:=h.split
  have hc : c.length = s:=by rw [h1.len,hs]
  cases i with
  | zero =>
   simp at hi;subst hi
   exact ⟨c,h1,hc,fun j hj => by rw [Nat.zero_mul,Nat.zero_add,List.getElem?_append_left (by omega)]⟩
  | succ i =>
   simp at hi
   obtain ⟨ds,k1,k2,k3⟩:=InN.get hs l d i a h2 hi
   refine ⟨ds,k1,k2,fun j hj => ?_⟩
   rw [← k3 j hj,List.getElem?_append_right (by rw [hc,Nat.succ_mul];omega)]
   congr 1
   rw [hc,Nat.succ_mul];omega
theorem inn_int {w : World} {N : Nat → Prop} {n : Int} {r : Q} {cs : List Value} (h : InN w N (.int n r) cs) : ∃ c,cs = .int .i64 n :: c ∧ InN w N r c:=by rwa [InN] at h
theorem inn_sl {w : World} {N : Nat → Prop} {E s n : Nat} {q r : Q} {cs : List Value} (h : InN w N (.sl E s n q r) cs) : ∃ p cap c,cs = .slice p n cap :: c ∧ InN w N (.sl E s n q .nil) [.slice p n cap] ∧ InN w N r c:=by
 rw [InN] at h
 obtain ⟨v,c,rfl,h,hr⟩:=h
 have h0 : InN w N (.sl E s n q .nil) [v]:=by rw [InN];exact ⟨v,[],rfl,h,by rw [InN]⟩
 rcases h with ⟨p,cap,rfl,rfl,_⟩ | ⟨a,o,cap,xs,rfl,_⟩
 ·exact ⟨_,_,c,rfl,h0,hr⟩
 ·exact ⟨_,_,c,rfl,h0,hr⟩
theorem inn_nil {w : World} {N : Nat → Prop} {cs : List Value} (h : InN w N .nil cs) : cs = []:=by rwa [InN] at h
theorem InN.mk_nil (w : World) (N : Nat → Prop) : InN w N .nil []:=by rw [InN]
theorem InN.mk_int {w : World} {N : Nat → Prop} {n : Int} {r : Q} {cs : List Value} (h : InN w N r cs) : InN w N (.int n r) (.int .i64 n :: cs):=by rw [InN];exact ⟨cs,rfl,h⟩
theorem InN.mk_sl {w : World} {N : Nat → Prop} {E s n : Nat} {q r : Q} {v : Value} {cs : List Value} (h : InN w N (.sl E s n q .nil) [v]) (hr : InN w N r cs) : InN w N (.sl E s n q r) (v :: cs):=by
 rw [InN] at h ⊢
 obtain ⟨v',c,e,h,_⟩:=h
 simp only [List.cons.injEq] at e
 obtain ⟨rfl,_⟩:=e
 exact ⟨v,cs,rfl,h,hr⟩
theorem InN.slice {w : World} {N : Nat → Prop} {E s n : Nat} {q : Q} {v : Value} (h : InN w N (.sl E s n q .nil) [v]) :
  (∃ p c,v = .slice p 0 c ∧ n = 0) ∨ ∃ b o cap xs,v = .slice (some ⟨b,o,none⟩) n cap ∧ 0 < n ∧ n ≤ cap ∧ cap ≤ maxLen ∧ N b ∧ b < w.heap.size ∧ xs.length = n * s ∧ (∀ j,j < n * s → w.cell? ⟨b,o + j,none⟩ = xs[j]?) ∧ InN w N q xs:=by
 rw [InN] at h
 obtain ⟨v',c,e,h,_⟩:=h
 simp only [List.cons.injEq] at e
 obtain ⟨rfl,_⟩:=e
 rcases h with ⟨p,cap,rfl,h0,_⟩ | h
 ·exact .inl ⟨p,cap,rfl,h0⟩
 ·exact .inr h
theorem InN.slLen {w : World} {N : Nat → Prop} {E s n : Nat} {q : Q} {v : Value} (h : InN w N (.sl E s n q .nil) [v]) : n ≤ maxLen:=by
 rcases h.slice with ⟨_,_,_,h⟩ | ⟨_,_,_,_,_,_,h1,h2,_⟩ <;> omega
theorem InN.slNil {w : World} {N : Nat → Prop} {E s : Nat} (p : Option Addr) (c : Nat) : InN w N (.sl E s 0 .nil .nil) [.slice p 0 c]:=by
 rw [InN];exact ⟨_,[],rfl,.inl ⟨p,c,rfl,rfl,by rw [InN]⟩,by rw [InN]⟩
def OwnL (w : World) (N : Nat → Prop) (B E s n : Nat) (q : Q) (v : Value) : Prop:=
 ∃ xs,w.ownsRow B E s v n xs ∧ InN w (fun k => N k ∧ some k ≠ v.ownBlock) q xs
theorem OwnL.nil (w : World) (N : Nat → Prop) (B E s : Nat) : OwnL w N B E s 0 .nil (.slice none 0 0):=⟨[],World.ownsRow_nil w B E s,by rw [InN]⟩
theorem OwnL.shape {w : World} {N : Nat → Prop} {B E s n : Nat} {q : Q} {v : Value} (h : OwnL w N B E s n q v) : ∃ p c,v = .slice p n c:=by
 obtain ⟨xs,h,_⟩:=h
 rcases h.2 with ⟨rfl,rfl⟩ | ⟨g,cap,cur,rfl,_⟩
 ·exact ⟨none,0,rfl⟩
 ·exact ⟨_,_,rfl⟩
theorem OwnL.own {w : World} {N : Nat → Prop} {B E s n : Nat} {q : Q} {v : Value} (h : OwnL w N B E s n q v) : ∀ k,v.ownBlock = some k → B ≤ k ∧ k < w.heap.size:=by
 obtain ⟨xs,h,_⟩:=h
 intro k hk
 rcases h.2 with ⟨rfl,_⟩ | ⟨g,cap,cur,rfl,hB,hg,_⟩
 ·simp [Value.ownBlock] at hk
 ·simp [Value.ownBlock] at hk
  subst hk
  exact ⟨hB,(Array.getElem?_eq_some_iff.1 hg).1⟩
theorem OwnL.keep {w w' : World} {N : Nat → Prop} {B E s n : Nat} {q : Q} {v : Value} (h : OwnL w N B E s n q v) {X : List Nat} (hf : Fr X w w') (hX : ∀ k ∈ X,k < B ∧ ¬ N k) : OwnL w' N B E s n q v:=by
 obtain ⟨xs,h,hq⟩:=h
 refine ⟨xs,⟨h.1,?_⟩,hq.keep hf (fun k hk hN hx => (hX k hx).2 hN.1)⟩
 rcases h.2 with h | ⟨g,cap,cur,e,hB,hg,r⟩
 ·exact .inl h
 ·exact .inr ⟨g,cap,cur,e,hB,(hf.block g (Array.getElem?_eq_some_iff.1 hg).1 (fun hx => by have:=(hX g hx).1;omega)).trans hg,r⟩
theorem OwnL.weak {w : World} {N N' : Nat → Prop} {B B' E s n : Nat} {q : Q} {v : Value} (h : OwnL w N B E s n q v) (hB : B' ≤ B) (hN : ∀ k,k < w.heap.size → N k → N' k) : OwnL w N' B' E s n q v:=by
 obtain ⟨xs,h,hq⟩:=h
 refine ⟨xs,⟨h.1,?_⟩,hq.weak (fun k hk h => ⟨hN k hk h.1,h.2⟩)⟩
 rcases h.2 with h | ⟨g,cap,cur,e,hB',r⟩
 ·exact .inl h
 ·exact .inr ⟨g,cap,cur,e,by omega,r⟩
theorem OwnL.inn2 {w : World} {N N' : Nat → Prop} {B E s n : Nat} {q : Q} {v : Value} (h : OwnL w N B E s n q v) (hN : ∀ k,k < w.heap.size → N k → N' k) (hB : ∀ g,v.ownBlock = some g → N' g) : InN w N' (.sl E s n q .nil) [v]:=by
 obtain ⟨xs,h,hq⟩:=h
 rw [InN]
 refine ⟨v,[],rfl,?_,by rw [InN]⟩
 rcases h.2 with ⟨rfl,rfl⟩ | ⟨g,cap,cur,rfl,hB',hg,c1,c2,c3,c4⟩
 ·have hl:=h.1
  rw [Nat.zero_mul] at hl
  obtain rfl:=List.eq_nil_of_length_eq_zero hl
  exact .inl ⟨none,0,rfl,rfl,hq.weak (fun k hk h => hN k hk h.1)⟩
 ·by_cases hn : n = 0
  ·subst hn
   have hl:=h.1
   rw [Nat.zero_mul] at hl
   obtain rfl:=List.eq_nil_of_length_eq_zero hl
   exact .inl ⟨_,_,rfl,rfl,hq.weak (fun k hk h => hN k hk h.1)⟩
  ·refine .inr ⟨g,0,cap,xs,rfl,by omega,c1,c2,hB g rfl,(Array.getElem?_eq_some_iff.1 hg).1,h.1,fun j hj => ?_,hq.weak (fun k hk h => hN k hk h.1)⟩
   rw [Nat.zero_add,(show w.cell? ⟨g,j,none⟩ = cur[j]? from Blk.cell hg j),← c4,List.getElem?_take,if_pos hj]
   simp
theorem OwnL.inn {w : World} {N N' : Nat → Prop} {B E s n : Nat} {q : Q} {v : Value} (h : OwnL w N B E s n q v) (hN : ∀ k,k < w.heap.size → N k → N' k) (hB : ∀ k,B ≤ k → N' k) : InN w N' (.sl E s n q .nil) [v]:=h.inn2 hN (fun g hg => hB g (h.own g hg).1)
theorem run_append_ownl {P : Program} (w : World) (N : Nat → Prop) (B t ty e : Nat) (i : TypeInfo) (z : Value) (size bytes : Nat) (ht : P.underlying t = some (.slice e)) (hi : P.info? e = some i) (hz : i.zero = some z)
  (hsize : i.size = size) (hby : i.bytes = bytes) (hzs : z.cells.size = size) (hsz : 0 < size)
  (v : Value) (n m : Nat) (q qn : Q) (hL : OwnL w N B e size n q v)
  (a : Addr) (c : Nat) (news : List Value) (hl : news.length = m * size) (hnews : ∀ j u,news[j]? = some u → w.cell? (a.add j) = some u) (hq : InN w (fun k => N k ∧ some k ≠ v.ownBlock) qn news)
  (hn : n + m ≤ 1000000) (hbytes : bytes ≤ 1000) (hB : B ≤ w.heap.size) :
  ∃ v' w',(Builtin.append_ #[t,t] ty #[v,.slice (some a) m c]).run P w = .ok v' w' ∧ OwnL w' N B e size (n + m) (q.app qn) v' ∧ w.grownBy w' v.ownBlock ∧ (∀ k,v'.ownBlock = some k → w.heap.size ≤ k ∨ v.ownBlock = some k):=by
 have h1:=hq.one
 have hb : (n + m) * bytes ≤ 140737488355328:=Nat.le_trans (Nat.mul_le_mul hn hbytes) (by decide)
 have h63 : n + m ≤ maxLen:=Nat.le_trans hn (by unfold maxLen;decide)
 obtain ⟨xs,hown,hxs⟩:=hL
 have done : ∀ (w' : World) (v' : Value),w.grownBy w' v.ownBlock → (∀ k,v'.ownBlock = some k → w.heap.size ≤ k ∨ v.ownBlock = some k) → w'.ownsRow B e size v' (n + m) (xs ++ news) → OwnL w' N B e size (n + m) (q.app qn) v':=by
  intro w' v' hg hv hr
  refine ⟨_,hr,InN.app (hxs.mono fun k hk hlt => ⟨⟨hk.1,fun e => ?_⟩,Nat.lt_of_lt_of_le hlt hg.size,hg.block k hlt hk.2⟩) (hq.mono fun k hk hlt => ⟨⟨hk.1,fun e => ?_⟩,Nat.lt_of_lt_of_le hlt hg.size,hg.block k hlt hk.2⟩)⟩
  ·rcases hv k e.symm with h | h
   ·omega
   ·exact hk.2 h.symm
  ·rcases hv k e.symm with h | h
   ·omega
   ·exact hk.2 h.symm
 rcases hown.2 with ⟨rfl,rfl⟩ | ⟨g,cap,cur,rfl,hBg,hg,hnc,hcm,hcs,htk⟩
 ·have hown':=World.ownsRow_nil w w.heap.size e size
  have hx0 : xs = []:=by
   have:=hown.1
   rw [Nat.zero_mul] at this
   exact List.eq_nil_of_length_eq_zero this
  subst hx0
  obtain ⟨v',w',hr,h2,h3,_⟩:=run_append_own w w.heap.size t ty e i z size bytes ht hi hz hsize hby hzs hsz (.slice none 0 0) 0 [] hown' a m c news hl hnews h1 h63 hb (Nat.le_refl _)
  have hvv : ∀ k,v'.ownBlock = some k → w.heap.size ≤ k ∨ (Value.slice none 0 0).ownBlock = some k:=by
   intro k hk
   rcases h2.2 with ⟨rfl,_⟩ | ⟨g',_,_,rfl,hb',_⟩
   ·simp [Value.ownBlock] at hk
   ·simp [Value.ownBlock] at hk
    omega
  refine ⟨v',w',hr,done w' v' h3 hvv ⟨h2.1,?_⟩,h3,hvv⟩
  ·rcases h2.2 with h | ⟨g',cap',cur',h,hb',r⟩
   ·exact .inl h
   ·exact .inr ⟨g',cap',cur',h,by omega,r⟩
 ·have hob : (Value.slice (some ⟨g,0,none⟩) n cap).ownBlock = some g:=rfl
  by_cases hroom : n + m ≤ cap
  ·obtain ⟨w',hr,h2,h3⟩:=run_append_fits w B t ty e i size ht hi hsize g n cap xs hown a m c news hl hnews h1 hroom
   exact ⟨_,w',hr,done w' _ h3 (fun k hk => .inr hk) h2,h3,fun k hk => .inr hk⟩
  ·obtain ⟨v',w',hr,h2,h3⟩:=run_append_arg_grows w t ty e i z size bytes ht hi hz hsize hby hzs hsz ⟨g,0,none⟩ n cap xs hown.1 (hown.cells (g:=g) rfl) a m c news hl hnews (by omega) h63 hb
   have h3' : w.grownBy w' (some g):=⟨h3.os,h3.tape,h3.output,h3.size,fun k hk _ => h3.block k hk (by simp)⟩
   have hvv : ∀ k,v'.ownBlock = some k → w.heap.size ≤ k ∨ (Value.slice (some ⟨g,0,none⟩) n cap).ownBlock = some k:=by
    intro k hk
    rcases h2.2 with ⟨rfl,_⟩ | ⟨g',_,_,rfl,hb',_⟩
    ·simp [Value.ownBlock] at hk
    ·simp [Value.ownBlock] at hk
     omega
   refine ⟨v',w',hr,done w' v' h3' hvv ⟨h2.1,?_⟩,h3',hvv⟩
   ·have hgl : g < w.heap.size:=(Array.getElem?_eq_some_iff.1 hg).1
    rcases h2.2 with h | ⟨g',cap',cur',h,hb',r⟩
    ·exact .inl h
    ·exact .inr ⟨g',cap',cur',h,by omega,r⟩
theorem wpList_append_ownl {P : Program} (w : World) {ops : Array Oper} {rest : List Oper} {o : Oper} {a : Act} {K : Exit → Act → World → Prop}
  (hg : o.guard = none) (s x : Operand) (t : Nat) (hop : o.op = Op.call { callee:=Callee.builtin Builtin.append,args:=#[s,x],argTypes:=#[t,t] })
  (N : Nat → Prop) (B e : Nat) (i : TypeInfo) (z : Value) (size bytes : Nat) (h1 : P.underlying t = some (.slice e)) (h2 : P.info? e = some i) (h3 : i.zero = some z) (h4 : i.size = size) (h5 : i.bytes = bytes) (h6 : z.cells.size = size) (h7 : 0 < size)
  (v : Value) (n m : Nat) (q qn : Q) (hs : a.eval s = v) (hL : OwnL w N B e size n q v) (ad : Addr) (c : Nat) (news : List Value) (hx : a.eval x = .slice (some ad) m c) (hn : news.length = m * size)
  (hc : ∀ j u,news[j]? = some u → w.cell? (ad.add j) = some u) (hq : InN w (fun k => N k ∧ some k ≠ v.ownBlock) qn news) (b1 : n + m ≤ 1000000) (b2 : bytes ≤ 1000) (b3 : B ≤ w.heap.size)
  (hK : ∀ v' w',OwnL w' N B e size (n + m) (q.app qn) v' → w.grownBy w' v.ownBlock → (∀ k,v'.ownBlock = some k → w.heap.size ≤ k ∨ v.ownBlock = some k) → wpList P ops K rest (a.put o.dst v') w') :
  wpList P ops K (o :: rest) a w:=by
 refine wpList_plain hg fun K' hK' => ?_
 obtain ⟨v',w',hrun,r1,r2,r3⟩:=run_append_ownl (P:=P) w N B t o.type e i z size bytes h1 h2 h3 h4 h5 h6 h7 v n m q qn hL ad c news hn hc hq b1 b2 b3
 unfold Oper.wp
 simp [execOp,hop,resolve,invoke,builtin,hs,hx,hrun,Result.andThen]
 exact hK' _ _ (hK v' w' r1 r2 r3)
theorem step_append_ownl {P : Program} (w : World) {ops : Array Oper} {o : Oper} {a : Act} {K : Act → World → Prop} {QQ : Exit → Act → World → Prop} {E : Prop} (hgd : o.guard = none) (s x : Operand) (t : Nat)
  (hop : o.op = Op.call { callee:=Callee.builtin Builtin.append,args:=#[s,x],argTypes:=#[t,t] })
  (N : Nat → Prop) (B e : Nat) (i : TypeInfo) (z : Value) (size bytes : Nat) (h1 : P.underlying t = some (.slice e)) (h2 : P.info? e = some i) (h3 : i.zero = some z) (h4 : i.size = size) (h5 : i.bytes = bytes) (h6 : z.cells.size = size) (h7 : 0 < size)
  (v : Value) (n m : Nat) (q qn : Q) (hs : a.eval s = v) (hL : OwnL w N B e size n q v) (ad : Addr) (c : Nat) (news : List Value) (hx : a.eval x = .slice (some ad) m c) (hn : news.length = m * size)
  (hc : ∀ j u,news[j]? = some u → w.cell? (ad.add j) = some u) (hq : InN w (fun k => N k ∧ some k ≠ v.ownBlock) qn news) (b1 : n + m ≤ 1000000) (b2 : bytes ≤ 1000) (b3 : B ≤ w.heap.size)
  (hK : ∀ p c' w',OwnL w' N B e size (n + m) (q.app qn) (.slice p (n + m) c') → w.grownBy w' v.ownBlock → (∀ k,(Value.slice p (n + m) c').ownBlock = some k → w.heap.size ≤ k ∨ v.ownBlock = some k) → K (a.put o.dst (.slice p (n + m) c')) w') :
  if Region.wanted o (yielded ops a.tmps) = true then Oper.wp P o a w K QQ else E:=by
 have hw : Region.wanted o (yielded ops a.tmps) = true:=by simp [Region.wanted,hgd]
 rw [if_pos hw]
 obtain ⟨v',w',hr,r1,r2,r3⟩:=run_append_ownl (P:=P) w N B t o.type e i z size bytes h1 h2 h3 h4 h5 h6 h7 v n m q qn hL ad c news hn hc hq b1 b2 b3
 obtain ⟨p,c',rfl⟩:=r1.shape
 unfold Oper.wp execOp
 simp only [hop,resolve,invoke,builtin,Sem.run_bind,Sem.run_pure,Result.andThen_ok,List.map_toArray,List.map_cons,List.map_nil,hs,hx,hr]
 exact hK p c' w' r1 r2 r3
section
variable {P : Program} {ops : Array Oper} {Q : Exit → Act → World → Prop} {md : Region.Mode} {fuel : Nat} {listed : Array Bool} {a : Act} {w : World}
theorem rd (rs : List Nat) (h : AllReady P md ops Q fuel listed a w rs) (hr : Region.ready md ops listed = rs:=by decide +kernel) (hne : rs ≠ []:=by simp) : wpAny P md ops Q (fuel + 1) listed a w:=wpAny_ready hr hne h
theorem tk (i : Nat) (v : Value) {oi : Oper} (hi : ops[i]? = some oi) (h : wpAny P md ops Q fuel (listed.setIfInBounds i true) (a.put oi.dst v) w) (hQ : ∀ c a w,Q (.panic c) (a.put oi.dst v) w → Q (.panic c) a w)
  (hw : Region.wanted oi (yielded ops a.tmps) = true) (hs : Region.noSelect ops = true:=by decide +kernel) (hf : Region.free md ops listed i = true:=by decide +kernel) (hr : (Region.ready md ops listed).contains i = true:=by decide +kernel)
  (hy : ∀ w,(execOp a.eval oi).run P w = .ok (.value v) w:=by intro w;go_simp;first | done | with_reducible rfl | exact IntWalk.i64_in _ (by omega)) : wpAny P md ops Q (fuel + 1) listed a w:=wpAny_take hi hs hf hr hQ (Or.inl ⟨hw,hy⟩) h
end
end Go.Proofs.Ytcdlnhfgehhkcaa
