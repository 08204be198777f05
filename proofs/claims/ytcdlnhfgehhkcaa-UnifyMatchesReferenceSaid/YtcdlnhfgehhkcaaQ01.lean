/- part of the proof -/
import Derived.WalkKit
import Derived.Test.YtcdlnhfgehhkcaaQ00
import Derived.Test.YtcdlnhfgehhkcaaChecked
import Derived.Lib.AppendZerosOnto
import Derived.Lib.Walk
import Derived.Lib.SliceRun
import Derived.Shelf.Spec.SlicesGrow
set_option linter.unusedVariables false
set_option linter.unusedSimpArgs false
set_option linter.unusedSectionVars false
namespace Go.Proofs.Ytcdlnhfgehhkcaa
inductive Ty where
 | mk (kind id : Int) (args : List Ty)
namespace Un
def kd : Ty → Int
 | .mk k _ _ => k
def nm : Ty → Int
 | .mk _ i _ => i
def ar : Ty → List Ty
 | .mk _ _ al => al
theorem Ty.ind {P : Ty → Prop} (h : ∀ k i al,(∀ a ∈ al,P a) → P (.mk k i al)) : ∀ t,P t:=fun t =>
 Ty.rec (motive_1:=P) (motive_2:=fun l => ∀ a ∈ l,P a) (fun k i al ih => h k i al ih) (fun a ha => by cases ha) (fun a l h1 h2 b hb => by rcases List.mem_cons.1 hb with rfl | hb;exact h1;exact h2 b hb) t
mutual
def size : Ty → Nat
 | .mk _ _ al => sizes al + 1
def sizes : List Ty → Nat
 | [] => 0
 | a :: r => size a + sizes r
end
theorem size_mem {a : Ty} : ∀ {l : List Ty},a ∈ l → size a ≤ sizes l
 | b :: r,h => by
  rw [sizes]
  rcases List.mem_cons.1 h with rfl | h
  ·omega
  ·have:=size_mem h;omega
theorem size_pos : ∀ t : Ty,1 ≤ size t
 | .mk _ _ _ => by rw [size];omega
theorem sizes_len : ∀ l : List Ty,l.length ≤ sizes l
 | [] => by simp
 | a :: r => by rw [sizes,List.length_cons];have:=sizes_len r;have:=size_pos a;omega
theorem size_lt {k i : Int} {al : List Ty} {a : Ty} (h : a ∈ al) : size a < size (.mk k i al):=by
 rw [size];have:=size_mem h;omega
theorem len_lt {k i : Int} {al : List Ty} : al.length < size (.mk k i al):=by
 rw [size];have:=sizes_len al;omega
mutual
def mapT (f : Ty → Option Ty) : Ty → Ty
 | .mk k i al => match f (.mk k i al) with
  | some r => r
  | none => .mk k i (mapTs f al)
def mapTs (f : Ty → Option Ty) : List Ty → List Ty
 | [] => []
 | a :: r => mapT f a :: mapTs f r
end
theorem mapTs_eq (f : Ty → Option Ty) : ∀ l,mapTs f l = l.map (mapT f)
 | [] => by rw [mapTs];rfl
 | a :: r => by rw [mapTs,mapTs_eq f r];rfl
theorem mapT_mk (f : Ty → Option Ty) (k i : Int) (al : List Ty) : mapT f (.mk k i al) = match f (.mk k i al) with
  | some r => r
  | none => .mk k i (al.map (mapT f)):=by rw [mapT];simp only [mapTs_eq]
theorem mapT_none : ∀ t,mapT (fun _ => none) t = t:=by
 refine Ty.ind fun k i al ih => ?_
 rw [mapT_mk]
 have : al.map (mapT fun _ => none) = al:=by
  have:=List.map_congr_left (f:=mapT fun _ => none) (g:=id) (l:=al) (fun a ha => ih a ha)
  rw [this,List.map_id]
 rw [this]
def rep (l : List Ty) (t : Ty) : Option Ty:=if kd t = 5 ∧ 0 ≤ nm t ∧ nm t < l.length then l[(nm t).toNat]? else none
def subst (l : List Ty) (t : Ty) : Ty:=mapT (rep l) t
mutual
def same : Ty → Ty → Bool
 | .mk k i al,.mk k' i' al' => (k == k' && i == i') && sames al al'
def sames : List Ty → List Ty → Bool
 | [],[] => true
 | a :: r,b :: r' => same a b && sames r r'
 | [],_ :: _ => false
 | _ :: _,[] => false
end
theorem sames_len : ∀ {l l' : List Ty},sames l l' = true → l.length = l'.length
 | [],[],_ => rfl
 | a :: r,b :: r',h => by rw [sames,Bool.and_eq_true] at h;simp [sames_len h.2]
 | [],_ :: _,h => by rw [sames] at h;cases h
 | _ :: _,[],h => by rw [sames] at h;cases h
theorem sames_iff : ∀ {l l' : List Ty},sames l l' = true ↔ l.length = l'.length ∧ ∀ (i : Nat) (a b : Ty),l[i]? = some a → l'[i]? = some b → same a b = true
 | [],[] => by simp [sames]
 | [],_ :: _ => by simp [sames]
 | _ :: _,[] => by simp [sames]
 | a :: r,b :: r' => by
  rw [sames,Bool.and_eq_true,sames_iff]
  constructor
  ·rintro ⟨h1,h2,h3⟩
   refine ⟨by simp [h2],fun i x y hx hy => ?_⟩
   cases i with
   | zero => simp at hx hy;subst hx;subst hy;exact h1
   | succ i => simp at hx hy;exact h3 i x y hx hy
  ·rintro ⟨h2,h3⟩
   exact ⟨h3 0 a b rfl rfl,by simpa using h2,fun i x y hx hy => h3 (i + 1) x y (by simpa using hx) (by simpa using hy)⟩
theorem same_eq : ∀ a b : Ty,same a b = true ↔ a = b:=by
 refine Ty.ind fun k i al ih => ?_
 rintro ⟨k',i',al'⟩
 rw [same,Bool.and_eq_true,Bool.and_eq_true,beq_iff_eq,beq_iff_eq,sames_iff]
 constructor
 ·rintro ⟨⟨rfl,rfl⟩,hl,h⟩
  have : al = al':=by
   apply List.ext_getElem?
   intro j
   rcases Nat.lt_or_ge j al.length with hj | hj
   ·have h1:=List.getElem?_eq_getElem hj
    have h2:=List.getElem?_eq_getElem (l:=al') (i:=j) (by omega)
    rw [h1,h2,(ih _ (List.getElem_mem hj) _).1 (h j _ _ h1 h2)]
   ·rw [List.getElem?_eq_none hj,List.getElem?_eq_none (by omega)]
  rw [this]
 ·intro h
  cases h
  refine ⟨⟨rfl,rfl⟩,rfl,fun j a b ha hb => ?_⟩
  rw [ha] at hb
  cases hb
  exact (ih a (List.mem_of_getElem? ha) a).2 rfl
theorem same_refl (a : Ty) : same a a = true:=(same_eq a a).2 rfl
theorem sames_eq {l l' : List Ty} : sames l l' = true ↔ l = l':=by
 constructor
 ·intro h
  have:=(same_eq (.mk 0 0 l) (.mk 0 0 l')).1 (by rw [same,h];rfl)
  cases this;rfl
 ·rintro rfl
  have:=same_refl (.mk 0 0 l)
  rw [same,Bool.and_eq_true] at this
  exact this.2
mutual
def depth : Ty → Nat
 | .mk _ _ al => depths al + 1
def depths : List Ty → Nat
 | [] => 0
 | a :: r => max (depth a) (depths r)
end
theorem depth_mem {a : Ty} : ∀ {l : List Ty},a ∈ l → depth a ≤ depths l
 | b :: r,h => by
  rw [depths]
  rcases List.mem_cons.1 h with rfl | h
  ·omega
  ·have:=depth_mem h;omega
theorem depths_le {n : Nat} : ∀ {l : List Ty},depths l ≤ n ↔ ∀ a ∈ l,depth a ≤ n
 | [] => by simp [depths]
 | b :: r => by
  rw [depths,Nat.max_le,depths_le]
  simp
theorem depth_size : ∀ t,depth t ≤ size t:=by
 refine Ty.ind fun k i al ih => ?_
 rw [depth,size]
 have : depths al ≤ sizes al:=depths_le.2 fun a ha => Nat.le_trans (ih a ha) (size_mem ha)
 omega
mutual
def few : Int → Ty → Int
 | m,.mk _ _ al => fews m 1 al
def fews : Int → Int → List Ty → Int
 | _,n,[] => n
 | m,n,a :: r => if n ≤ m then fews m (n + few (m - n) a) r else n
end
theorem few_bounds : ∀ t m,0 ≤ m → 1 ≤ few m t ∧ few m t ≤ m + 1 ∧ (few m t ≤ m → few m t = size t):=by
 refine Ty.ind fun k i al ih => ?_
 have key : ∀ (l : List Ty),(∀ a ∈ l,∀ m,0 ≤ m → 1 ≤ few m a ∧ few m a ≤ m + 1 ∧ (few m a ≤ m → few m a = size a)) → ∀ m n,0 ≤ m → n ≤ m + 1 → n ≤ fews m n l ∧ fews m n l ≤ m + 1 ∧ (fews m n l ≤ m → fews m n l = n + sizes l):=by
  intro l
  induction l with
  | nil => intro _ m n hm hn;rw [fews,sizes];exact ⟨by omega,by omega,fun _ => by simp⟩
  | cons a r ihr =>
   intro h m n hm hn
   rw [fews]
   split
   ·rename_i hle
    obtain ⟨k1,k2,k3⟩:=h a (by simp) (m - n) (by omega)
    obtain ⟨j1,j2,j3⟩:=ihr (fun b hb => h b (by simp [hb])) m (n + few (m - n) a) hm (by omega)
    refine ⟨by omega,j2,fun hx => ?_⟩
    have:=j3 hx
    have e2:=k3 (by have : (0 : Int) ≤ sizes r:=(by omega);omega)
    rw [this,e2,sizes]
    omega
   ·exact ⟨by omega,by omega,fun h => by omega⟩
 intro m hm
 rw [few,size]
 obtain ⟨h1,h2,h3⟩:=key al ih m 1 hm (by omega)
 exact ⟨by omega,h2,fun h => by rw [h3 h];omega⟩
theorem few_size (t : Ty) (m : Int) (hm : 0 ≤ m) (h : few m t ≤ m) : (size t : Int) ≤ m:=by
 have:=(few_bounds t m hm).2.2 h;omega
def small (l : List Ty) : Bool:=l.all (fun t => decide (few 30 t ≤ 30)) && decide (l.length ≤ 8)
theorem small_size {l : List Ty} (h : small l = true) : (∀ t ∈ l,size t ≤ 30) ∧ l.length ≤ 8:=by
 simp only [small,Bool.and_eq_true,List.all_eq_true,decide_eq_true_eq] at h
 exact ⟨fun t ht => by have:=few_size t 30 (by omega) (h.1 t ht);omega,h.2⟩
def stored (t : Ty) : Bool:=decide (1 ≤ kd t) && decide (kd t ≤ 5)
def fits (k : Int) (a : Ty) : Bool:=stored a || (k == 7 && kd a == 6)
mutual
def acc (ds : List Int) (p : Int) : Int → Ty → Bool
 | n,.mk k i al =>
  if n = 0 then false
  else if k = 1 ∨ k = 6 then decide (i = 0) && al.isEmpty
  else if k = 5 then (decide (0 ≤ i) && decide (i < p)) && al.isEmpty
  else if k = 2 then (decide (0 ≤ i) && decide (i < ds.length)) && (decide ((al.length : Int) = ds.getD i.toNat 0) && accs ds p k n al)
  else if k = 3 ∨ k = 4 ∨ k = 7 ∨ k = 8 then decide (i = 0) && (decide ((al.length : Int) = 1) && accs ds p k n al)
  else false
def accs (ds : List Int) (p : Int) : Int → Int → List Ty → Bool
 | _,_,[] => true
 | k,n,a :: r => (fits k a && acc ds p (n - 1) a) && accs ds p k n r
end
theorem accs_all (ds : List Int) (p k n : Int) : ∀ l,accs ds p k n l = l.all (fun a => fits k a && acc ds p (n - 1) a)
 | [] => by rw [accs];rfl
 | a :: r => by rw [accs,accs_all ds p k n r];rfl
def valid (ds : List Int) (p : Int) (t : Ty) : Bool:=(decide (0 ≤ p) && decide (p ≤ 4)) && acc ds p 8 t
theorem subst_mk (l : List Ty) (k i : Int) (al : List Ty) : subst l (.mk k i al) = match rep l (.mk k i al) with
  | some r => r
  | none => .mk k i (al.map (subst l)):=by unfold subst;rw [mapT_mk]
def ps : List Ty:=[.mk 5 0 [],.mk 5 1 [],.mk 5 2 [],.mk 5 3 []]
end Un
open Go.RowKit Go.Lib
open Un (kd nm ar)
mutual
def qTy : Ty → Q
 | .mk k i al => .int k (.int i (.sl 24 3 al.length (qTys al) .nil))
def qTys : List Ty → Q
 | [] => .nil
 | a :: r => (qTy a).app (qTys r)
end
theorem qTys_eq : ∀ l : List Ty,qTys l = rowsQ qTy l
 | [] => by rw [qTys,rowsQ]
 | a :: r => by rw [qTys,rowsQ,qTys_eq r]
theorem qTy_mk (k i : Int) (al : List Ty) : qTy (.mk k i al) = .int k (.int i (.sl 24 3 al.length (rowsQ qTy al) .nil)):=by rw [qTy,qTys_eq]
theorem qTy_eta (t : Ty) : qTy t = .int (kd t) (.int (nm t) (.sl 24 3 (ar t).length (rowsQ qTy (ar t)) .nil)):=by cases t;rw [qTy_mk];rfl
theorem ln_qTy (t : Ty) : (qTy t).ln = 3:=by rw [qTy_eta];rfl
def TysV (w : World) (N : Nat → Prop) (l : List Ty) (v : Value) : Prop:=InN w N (.sl 24 3 l.length (rowsQ qTy l) .nil) [v]
def TyV (w : World) (N : Nat → Prop) (t : Ty) (cs : List Value) : Prop:=InN w N (qTy t) cs
theorem TyV.shape {w : World} {N : Nat → Prop} {t : Ty} {cs : List Value} (h : TyV w N t cs) : ∃ p c,cs = [.int .i64 (kd t),.int .i64 (nm t),.slice p (ar t).length c] ∧ TysV w N (ar t) (.slice p (ar t).length c):=by
 unfold TyV at h
 rw [qTy_eta] at h
 obtain ⟨c1,rfl,h1⟩:=inn_int h
 obtain ⟨c2,rfl,h2⟩:=inn_int h1
 obtain ⟨p,cap,c3,rfl,hs,h3⟩:=inn_sl h2
 obtain rfl:=inn_nil h3
 exact ⟨p,cap,rfl,hs⟩
theorem TyV.mk {w : World} {N : Nat → Prop} {k i : Int} {al : List Ty} {v : Value} (h : TysV w N al v) : TyV w N (.mk k i al) [.int .i64 k,.int .i64 i,v]:=by
 unfold TyV
 rw [qTy_mk]
 exact InN.mk_int (InN.mk_int h)
theorem TyV.keep {w w' : World} {N : Nat → Prop} {t : Ty} {cs : List Value} (h : TyV w N t cs) {X : List Nat} (hf : Fr X w w') (hX : ∀ k ∈ X,¬ N k) : TyV w' N t cs:=InN.keep h hf (fun k _ hN hx => hX k hx hN)
theorem TyV.keep0 {w w' : World} {N : Nat → Prop} {t : Ty} {cs : List Value} (h : TyV w N t cs) (hf : Fr [] w w') : TyV w' N t cs:=InN.keep0 h hf
theorem TyV.weak {w : World} {N N' : Nat → Prop} {t : Ty} {cs : List Value} (h : TyV w N t cs) (hN : ∀ k,k < w.heap.size → N k → N' k) : TyV w N' t cs:=InN.weak h hN
theorem TysV.keep {w w' : World} {N : Nat → Prop} {l : List Ty} {v : Value} (h : TysV w N l v) {X : List Nat} (hf : Fr X w w') (hX : ∀ k ∈ X,¬ N k) : TysV w' N l v:=InN.keep h hf (fun k _ hN hx => hX k hx hN)
theorem TysV.keep0 {w w' : World} {N : Nat → Prop} {l : List Ty} {v : Value} (h : TysV w N l v) (hf : Fr [] w w') : TysV w' N l v:=InN.keep0 h hf
theorem TysV.weak {w : World} {N N' : Nat → Prop} {l : List Ty} {v : Value} (h : TysV w N l v) (hN : ∀ k,k < w.heap.size → N k → N' k) : TysV w N' l v:=InN.weak h hN
theorem TysV.shape {w : World} {N : Nat → Prop} {l : List Ty} {v : Value} (h : TysV w N l v) : ∃ p c,v = .slice p l.length c:=by
 rcases InN.slice h with ⟨p,c,rfl,h0⟩ | ⟨b,o,cap,xs,rfl,_⟩
 ·exact ⟨p,c,by rw [h0]⟩
 ·exact ⟨_,_,rfl⟩
theorem TysV.len {w : World} {N : Nat → Prop} {l : List Ty} {v : Value} (h : TysV w N l v) : l.length ≤ maxLen:=InN.slLen h
theorem TysV.nil {w : World} {N : Nat → Prop} (p : Option Addr) (c : Nat) : TysV w N [] (.slice p 0 c):=InN.slNil p c
def TysAt (w : World) (N : Nat → Prop) (l : List Ty) (b o : Nat) : Prop:=
 N b ∧ b < w.heap.size ∧ ∃ xs,(∀ j,j < l.length * 3 → w.cell? ⟨b,o + j,none⟩ = xs[j]?) ∧ InN w N (rowsQ qTy l) xs
theorem TysV.cases {w : World} {N : Nat → Prop} {l : List Ty} {v : Value} (h : TysV w N l v) :
  (l = [] ∧ ∃ p c,v = .slice p 0 c) ∨ (0 < l.length ∧ ∃ b o cap,v = .slice (some ⟨b,o,none⟩) l.length cap ∧ l.length ≤ cap ∧ cap ≤ maxLen ∧ TysAt w N l b o):=by
 rcases InN.slice h with ⟨p,c,rfl,h0⟩ | ⟨b,o,cap,xs,rfl,h1,h2,h3,h4,h5,h6,h7,h8⟩
 ·exact .inl ⟨List.eq_nil_of_length_eq_zero h0,p,c,rfl⟩
 ·exact .inr ⟨h1,b,o,cap,rfl,h2,h3,h4,h5,xs,h7,h8⟩
theorem TysAt.el {w wr : World} {N : Nat → Prop} {l : List Ty} {b o : Nat} (h : TysAt w N l b o) {X : List Nat} (hf : Fr X w wr) (hX : ∀ k ∈ X,¬ N k) {i : Nat} {t : Ty} (ht : l[i]? = some t) :
  ∃ p c,TyV wr N t [.int .i64 (kd t),.int .i64 (nm t),.slice p (ar t).length c] ∧ b < wr.heap.size ∧ wr.cell? ⟨b,o + i * 3,none⟩ = some (.int .i64 (kd t)) ∧ wr.cell? ⟨b,o + i * 3 + 1,none⟩ = some (.int .i64 (nm t)) ∧ wr.cell? ⟨b,o + i * 3 + 2,none⟩ = some (.slice p (ar t).length c):=by
 obtain ⟨hN,hb,xs,hc,hq⟩:=h
 have hi : i < l.length:=by
  rcases Nat.lt_or_ge i l.length with h | h
  ·exact h
  ·rw [List.getElem?_eq_none h] at ht;cases ht
 obtain ⟨ds,k1,k2,k3⟩:=InN.get (f:=qTy) (s:=3) ln_qTy l xs i t hq ht
 obtain ⟨p,c,rfl,_⟩:=TyV.shape k1
 have hbX : b ∉ X:=fun hx => hX b hx hN
 have hcl : ∀ j,j < 3 → wr.cell? ⟨b,o + (i * 3 + j),none⟩ = [Value.int .i64 (kd t),.int .i64 (nm t),.slice p (ar t).length c][j]?:=fun j hj => by
  rw [World.cell?_of_block (w:=w) (hf.block b hb hbX),hc _ (by omega),k3 j hj]
 refine ⟨p,c,TyV.keep k1 hf hX,Nat.lt_of_lt_of_le hb hf.size,?_,?_,?_⟩
 ·have:=hcl 0 (by omega);rw [← Nat.add_assoc] at this;exact this
 ·have:=hcl 1 (by omega);rw [← Nat.add_assoc] at this;exact this
 ·have:=hcl 2 (by omega);rw [← Nat.add_assoc] at this;exact this
def Enters (F : Nat) : Prop:=∀ (args : Array Value) (w : World),(callFunc F args).run Try.prog w = .ok (.enter F args) w
theorem info_ty : (Try.prog.info? 24).map (fun i => (i.zero,i.size,i.bytes)) = some (some (.agg #[.int .i64 0,.int .i64 0,.slice none 0 0]),3,40):=by kernel_rfl
theorem info_int : (Try.prog.info? 3).map (fun i => (i.zero,i.size,i.bytes)) = some (some (.int .i64 0),1,8):=by kernel_rfl
def eqS {σ : Type} (step : σ → Ty → Ty → σ × Bool) : σ → List Ty → List Ty → σ × Bool
 | s,a :: r,b :: r' => if (step s a b).2 then eqS step (step s a b).1 r r' else ((step s a b).1,false)
 | s,_,_ => (s,true)
def eqF {σ : Type} (step : σ → Ty → Ty → σ × Bool) (s : σ) (l l' : List Ty) : σ × Bool:=if l.length = l'.length then eqS step s l l' else (s,false)
theorem eqS_step {σ : Type} {step : σ → Ty → Ty → σ × Bool} {s : σ} {l l' : List Ty} {i : Nat} (h1 : i < l.length) (h2 : i < l'.length) :
  eqS step s (l.drop i) (l'.drop i) = if (step s l[i] l'[i]).2 then eqS step (step s l[i] l'[i]).1 (l.drop (i + 1)) (l'.drop (i + 1)) else ((step s l[i] l'[i]).1,false):=by
 rw [List.drop_eq_getElem_cons h1,List.drop_eq_getElem_cons h2,eqS]
theorem eqS_end {σ : Type} {step : σ → Ty → Ty → σ × Bool} {s : σ} {l l' : List Ty} {i : Nat} (h1 : l.length ≤ i) : eqS step s (l.drop i) (l'.drop i) = (s,true):=by
 rw [List.drop_eq_nil_of_le h1,eqS]
 intro a b c d h;cases h
def EqP {σ : Type} (X : List Nat) (I : σ → World → Prop) (r : σ × Bool) (w : World) (e : Ending) (w' : World) : Prop:=e = .returned (.bool r.2) ∧ Fr X w w' ∧ I r.1 w'
set_option maxHeartbeats 1600000 in
theorem equalfunc_any {σ : Type} (F : Nat) (caps : Array Value) (X : List Nat) (N N' : Nat → Prop) (I : σ → World → Prop) (step : σ → Ty → Ty → σ × Bool) (hE : Enters F) (hXN : ∀ k ∈ X,¬ N k) (hXN' : ∀ k ∈ X,¬ N' k)
  (hI : ∀ s w w',I s w → Fr [] w w' → I s w') (l l' : List Ty)
  (hF : ∀ a ∈ l,∀ b ∈ l',∀ (s : σ) (cs ds : List Value) (w : World),I s w → TyV w N a cs → TyV w N' b ds → Calls Try.prog F (#[.agg cs.toArray,.agg ds.toArray] ++ caps) w (EqP X I (step s a b) w))
  (v v' : Value) (s : σ) (w : World) (hs : I s w) (h : TysV w N l v) (h' : TysV w N' l' v') :
  Calls Try.prog 48 #[v,v',.func (.func F) #[] caps] w (EqP X I (eqF step s l l') w):=by
 have hE' : ∀ (args : Array Value) (w : World),(callFunc F args).run Try.prog w = .ok (.enter F args) w:=hE
 have HF:=hid hF
 have HI:=hid hI
 have HS:=hid hs
 have hlm:=h.len
 have hlm':=h'.len
 unfold maxLen at hlm hlm'
 clear hF hI hs
 by_cases hlen : l.length = l'.length
 ·have hd : ((l.length : Int) != (l'.length : Int)) = false:=by rw [hlen];simp
  have hd' : decide (l.length = l'.length) = true:=by simpa using hlen
  have hr : eqF step s l l' = eqS step s l l':=by unfold eqF;rw [if_pos hlen]
  have HR:=hid hr
  have HL:=hid hlen
  clear hr
  rcases h.cases with ⟨rfl,p,c,rfl⟩ | ⟨hn,b,o,cap,rfl,hc,hm,hat⟩
  ·have hl' : l' = []:=List.eq_nil_of_length_eq_zero hlen.symm
   subst hl'
   obtain ⟨p',c',rfl⟩:=h'.shape
   clear h h' hlen hd'
   simp only [List.length_nil] at hd hlm hlm' ⊢
   go_enter Try.func48,Try.ntmps48
   go_wp2_with fail
   go_loopw [17] (fun v wr => v = .int .i64 0 ∧ wr = w) (fun v _ => 0)
   case atStart => exact ⟨rfl,rfl⟩
   case round =>
    obtain ⟨rfl,rfl⟩:=hrel
    go_wp2_with fail
    go_ret
    unfold EqP
    rw [HR.out,eqS]
    exact ⟨rfl,Fr.refl _ _,HS.out⟩
    ·intro a b c d h;cases h
  ·rcases h'.cases with ⟨rfl,p,c,rfl⟩ | ⟨hn',b',o',cap',rfl,hc',hm',hat'⟩
   ·exfalso;have h0 : l.length = 0:=hlen;omega
   have hlen2:=hlen
   clear hlen h h' hd'
   obtain ⟨n,hn2⟩ : ∃ n,n = l.length:=⟨_,rfl⟩
   have hn3 : l'.length = n:=by omega
   rw [← hn2] at hd hlm hc hn hlen2
   rw [hn3] at hd hlm' hc' hn' hlen2
   have HA:=hid hat
   have HA':=hid hat'
   have HN2:=hid hn2
   have HN3:=hid hn3
   unfold maxLen at hm hm'
   clear hat hat' hlen2 hd hn'
   have hd : ((n : Int) != (n : Int)) = false:=by simp
   rw [hn3,← hn2]
   clear hn2 hn3
   go_enter Try.func48,Try.ntmps48
   go_wp2_with fail
   go_loopw [17] (fun v wr => ∃ (i : Nat) (s' : σ),v = .int .i64 i ∧ i ≤ n ∧ Hid (Fr X w wr) ∧ Hid (I s' wr) ∧ Hid (eqF step s l l' = eqS step s' (l.drop i) (l'.drop i))) (fun v _ => n - (RowKit.intOf v).toNat)
   case atStart => exact ⟨0,s,rfl,by omega,hid (Fr.refl _ _),HS,hid (by rw [HR.out];rfl)⟩
   case round =>
    obtain ⟨i,s',rfl,hi,HFR,HS',HQ⟩:=hrel
    by_cases hlt : i < n
    ·have hd2 : decide ((i : Int) < (n : Int)) = true:=by simp;omega
     have hd3 : decide (i < n) = true:=by simpa using hlt
     have hi1 : i < l.length:=by have:=HN2.out;omega
     have hi2 : i < l'.length:=by have:=HN3.out;omega
     obtain ⟨p1,c1,k1,hb,g0,g1,g2⟩:=HA.out.el HFR.out hXN (List.getElem?_eq_getElem hi1)
     obtain ⟨p2,c2,k2,hb',g0',g1',g2'⟩:=HA'.out.el HFR.out hXN' (List.getElem?_eq_getElem hi2)
     have K1:=hid k1
     have K2:=hid k2
     have HST:=hid (eqS_step (step:=step) (s:=s') hi1 hi2)
     obtain ⟨a,ha⟩ : ∃ a,a = l[i]:=⟨_,rfl⟩
     obtain ⟨b2,hb2⟩ : ∃ a,a = l'[i]:=⟨_,rfl⟩
     have HMA : Hid (a ∈ l):=hid (by rw [ha];exact List.getElem_mem _)
     have HMB : Hid (b2 ∈ l'):=hid (by rw [hb2];exact List.getElem_mem _)
     rw [← ha] at g0 g1 g2 K1 HST
     rw [← hb2] at g0' g1' g2' K2 HST
     clear k1 k2 ha hb2 hi1 hi2
     go_wp2_with fail
     have hf0 : Fr [] wr ((wr.alloc (.cells #[.int .i64 (kd a),.int .i64 (nm a),.slice p1 (ar a).length c1] 24)).alloc (.cells #[.int .i64 (kd b2),.int .i64 (nm b2),.slice p2 (ar b2).length c2] 24)):=((Fr.refl _ _).alloc _).alloc _
     refine (HF.out a HMA.out b2 HMB.out s' _ _ _ (HI.out _ _ _ HS'.out hf0) (K1.out.keep0 hf0) (K2.out.keep0 hf0)).mono ?_
     rintro e w2 ⟨rfl,hf2,hs2⟩
     have HF2:=hid (HFR.out.trans ((hf0.nil X).trans hf2))
     have HS2:=hid hs2
     clear hf0 hf2 hs2 g0 g1 g2 g0' g1' g2'
     cases hgd : (step s' a b2).2 with
     | true =>
      have HB:=hid hgd
      clear hgd
      go_wp2_with fail
      go_roundw
      case rel => exact ⟨i + 1,(step s' a b2).1,by go_num,by omega,HF2,HS2,hid (by rw [HQ.out,HST.out,HB.out];rfl)⟩
      case measure => simp [RowKit.intOf];omega
     | false =>
      have HB:=hid hgd
      clear hgd
      go_wp2_with fail
      go_ret
      unfold EqP
      rw [HQ.out,HST.out,HB.out]
      exact ⟨rfl,HF2.out,HS2.out⟩
    ·have hd2 : decide ((i : Int) < (n : Int)) = false:=by simp;omega
     have hd3 : decide (i < n) = false:=by simpa using hlt
     go_wp2_with fail
     go_ret
     unfold EqP
     rw [HQ.out,eqS_end (by have:=HN2.out;omega)]
     exact ⟨rfl,HFR.out,HS'.out⟩
 ·have hd : ((l.length : Int) != (l'.length : Int)) = true:=by simp;omega
  have hr : eqF step s l l' = (s,false):=by unfold eqF;rw [if_neg hlen]
  have HR:=hid hr
  obtain ⟨p,c,rfl⟩:=h.shape
  obtain ⟨p',c',rfl⟩:=h'.shape
  clear hr h h' hlen
  go_enter Try.func48,Try.ntmps48
  go_wp2_with fail
  go_ret
  unfold EqP
  rw [HR.out]
  exact ⟨rfl,Fr.refl _ _,HS.out⟩
def GrowP (E s : Nat) (w : World) (e : Ending) (w' : World) : Prop:=∃ v,e = .returned v ∧ (∀ N,OwnL w' N w.heap.size E s 0 .nil v) ∧ Fr [] w w'
theorem growP_new (w : World) (E s n cap : Nat) (z : Array Value) (hz : z.size = s) (h1 : n ≤ cap) (h2 : cap ≤ maxLen) :
  GrowP E s w (.returned (.slice (some ⟨w.heap.size,0,none⟩) 0 cap)) (w.alloc (.cells (Builtin.zeroCells z n ++ Builtin.zeroCells z (cap - n)) E)).drew:=by
 refine ⟨_,rfl,fun N => ⟨[],⟨by simp,.inr ⟨w.heap.size,cap,_,rfl,Nat.le_refl _,alloc_new w _,Nat.zero_le _,h2,?_,by simp⟩⟩,by rw [InN]⟩,((Fr.refl _ _).alloc _).drew⟩
 simp only [Array.size_append,size_zeroCells]
 rw [hz,← Nat.add_mul,show n + (cap - n) = cap by omega]
set_option maxRecDepth 100000 in
set_option maxHeartbeats 1600000 in
theorem grow_ty (n : Nat) (w : World) (hn : n ≤ 1000000) : Calls Try.prog 75 #[.slice none 0 0,.int .i64 n] w (GrowP 24 3 w):=by
 obtain ⟨i0,hi,hz0,hz1,hz2⟩:=info_parts info_ty
 by_cases h0 : n = 0
 ·subst h0
  go_enter Try.func75,Try.ntmps75
  go_wp2_with fail
  go_ret
  exact ⟨_,rfl,fun N => OwnL.nil _ _ _ _ _,Fr.refl _ _⟩
 ·have hfit : Builtin.nextslicecap (0 + n) 0 * i0.bytes ≤ 281474976710656:=growslice_fits (by omega) (by rw [hz2];omega)
  have hrz : ∀ ty,(Builtin.append_ #[22,3] ty #[.slice none 0 0,.int .i64 n]).run Try.prog w =
    .ok (.slice (some ⟨w.heap.size,0,none⟩) n (grownCap w n 0 24)) (w.drew.alloc (.cells (#[] ++ Builtin.zeroCells (Value.agg #[.int .i64 0,.int .i64 0,.slice none 0 0]).cells n ++ Builtin.zeroCells (Value.agg #[.int .i64 0,.int .i64 0,.slice none 0 0]).cells (grownCap w n 0 24 - n)) 24)):=fun ty => by
   have h:=Lib.run_append_grow_zeros (P:=Try.prog) w 22 3 ty 24 i0 _ .i64 .i64 Try.underlying22 Try.underlying3 hi hz0 none 0 0 [] (run_firstCells_none w.drew i0.size 0 0 0) n (by omega) (by omega) (by omega) (by omega) (by rw [hz2];omega) hfit
   rw [Nat.zero_add] at h
   exact h
  have hge:=grownCap_ge w n 0 24
  have hle:=grownCap_le_maxLen w n 0 24 (by unfold maxLen;omega)
  obtain ⟨G,hG⟩ : ∃ G,G = grownCap w n 0 24:=⟨_,rfl⟩
  rw [← hG] at hrz hge hle
  have HP:=hid (growP_new w 24 3 n G #[.int .i64 0,.int .i64 0,.slice none 0 0] rfl hge hle)
  unfold maxLen at hle
  have hpos : decide ((n : Int) > 0) = true:=by simp;omega
  clear hG hfit
  go_enter Try.func75,Try.ntmps75
  go_wp2_with (at_builtin;refine Lib.wpList_append_run _ rfl _ _ _ _ rfl _ _ rfl rfl _ _ (hrz _) ?_)
  all_goals (go_ret;exact HP.out)
set_option maxRecDepth 100000 in
set_option maxHeartbeats 1600000 in
theorem grow_int (n : Nat) (w : World) (hn : n ≤ 1000000) : Calls Try.prog 90 #[.slice none 0 0,.int .i64 n] w (GrowP 3 1 w):=by
 obtain ⟨i0,hi,hz0,hz1,hz2⟩:=info_parts info_int
 by_cases h0 : n = 0
 ·subst h0
  go_enter Try.func90,Try.ntmps90
  go_wp2_with fail
  go_ret
  exact ⟨_,rfl,fun N => OwnL.nil _ _ _ _ _,Fr.refl _ _⟩
 ·have hfit : Builtin.nextslicecap (0 + n) 0 * i0.bytes ≤ 281474976710656:=growslice_fits (by omega) (by rw [hz2];omega)
  have hrz : ∀ ty,(Builtin.append_ #[28,3] ty #[.slice none 0 0,.int .i64 n]).run Try.prog w =
    .ok (.slice (some ⟨w.heap.size,0,none⟩) n (grownCap w n 0 3)) (w.drew.alloc (.cells (#[] ++ Builtin.zeroCells (Value.int .i64 0).cells n ++ Builtin.zeroCells (Value.int .i64 0).cells (grownCap w n 0 3 - n)) 3)):=fun ty => by
   have h:=Lib.run_append_grow_zeros (P:=Try.prog) w 28 3 ty 3 i0 _ .i64 .i64 Try.underlying28 Try.underlying3 hi hz0 none 0 0 [] (run_firstCells_none w.drew i0.size 0 0 0) n (by omega) (by omega) (by omega) (by omega) (by rw [hz2];omega) hfit
   rw [Nat.zero_add] at h
   exact h
  have hge:=grownCap_ge w n 0 3
  have hle:=grownCap_le_maxLen w n 0 3 (by unfold maxLen;omega)
  obtain ⟨G,hG⟩ : ∃ G,G = grownCap w n 0 3:=⟨_,rfl⟩
  rw [← hG] at hrz hge hle
  have HP:=hid (growP_new w 3 1 n G #[.int .i64 0] rfl hge hle)
  unfold maxLen at hle
  have hpos : decide ((n : Int) > 0) = true:=by simp;omega
  clear hG hfit
  go_enter Try.func90,Try.ntmps90
  go_wp2_with (at_builtin;refine Lib.wpList_append_run _ rfl _ _ _ _ rfl _ _ rfl rfl _ _ (hrz _) ?_)
  all_goals (go_ret;exact HP.out)
def LookP (r : Bool) (w : World) (e : Ending) (w' : World) : Prop:=e = .returned (.bool r) ∧ Fr [] w w'
def IdxP (r : Bool) (w : World) (e : Ending) (w' : World) : Prop:=∃ n : Int,e = .returned (.int .i64 n) ∧ decide (0 ≤ n) = r ∧ Fr [] w w'
set_option maxHeartbeats 1600000 in
theorem indexfunc_any (F : Nat) (caps : Array Value) (N : Nat → Prop) (good : Ty → Bool) (hE : Enters F) (l : List Ty) (w : World)
  (hF : ∀ a ∈ l,∀ (cs : List Value) (wr : World),Fr [] w wr → TyV wr N a cs → Calls Try.prog F (#[.agg cs.toArray] ++ caps) wr (LookP (good a) wr))
  (v : Value) (h : TysV w N l v) :
  Calls Try.prog 92 #[v,.func (.func F) #[] caps] w (IdxP (l.any good) w):=by
 have hE' : ∀ (args : Array Value) (w : World),(callFunc F args).run Try.prog w = .ok (.enter F args) w:=hE
 have HF:=hid hF
 have hlm:=h.len
 unfold maxLen at hlm
 clear hF
 rcases h.cases with ⟨rfl,p,c,rfl⟩ | ⟨hn,b,o,cap,rfl,hc,hm,hat⟩
 ·clear h
  simp only [List.length_nil] at hlm ⊢
  go_enter Try.func92,Try.ntmps92
  go_wp2_with fail
  go_loopw [8] (fun v wr => v = .int .i64 0 ∧ wr = w) (fun v _ => 0)
  case atStart => exact ⟨rfl,rfl⟩
  case round =>
   obtain ⟨rfl,rfl⟩:=hrel
   go_wp2_with fail
   go_ret
   exact ⟨_,rfl,rfl,Fr.refl _ _⟩
 ·have HA:=hid hat
  obtain ⟨n,hn2⟩ : ∃ n,n = l.length:=⟨_,rfl⟩
  have HN2:=hid hn2
  unfold maxLen at hm
  rw [← hn2] at hlm hc hn ⊢
  clear hat h hn2
  go_enter Try.func92,Try.ntmps92
  go_wp2_with fail
  go_loopw [8] (fun v wr => ∃ i : Nat,v = .int .i64 i ∧ i ≤ n ∧ Hid (Fr [] w wr) ∧ Hid (∀ j,j < i → ∀ t,l[j]? = some t → good t = false)) (fun v _ => n - (RowKit.intOf v).toNat)
  case atStart => exact ⟨0,rfl,by omega,hid (Fr.refl _ _),hid (fun j hj => by omega)⟩
  case round =>
   obtain ⟨i,rfl,hi,HFR,HG⟩:=hrel
   by_cases hlt : i < n
   ·have hd2 : decide ((i : Int) < (n : Int)) = true:=by simp;omega
    have hd3 : decide (i < n) = true:=by simpa using hlt
    have hi1 : i < l.length:=by have:=HN2.out;omega
    obtain ⟨p1,c1,k1,hb,g0,g1,g2⟩:=HA.out.el HFR.out (by simp) (List.getElem?_eq_getElem hi1)
    have K1:=hid k1
    obtain ⟨a,ha⟩ : ∃ a,a = l[i]:=⟨_,rfl⟩
    have HMA : Hid (l[i]? = some a):=hid (by rw [ha];exact List.getElem?_eq_getElem _)
    rw [← ha] at g0 g1 g2 K1
    clear k1 ha hi1
    go_wp2_with fail
    refine (HF.out a (List.mem_of_getElem? HMA.out) _ _ HFR.out K1.out).mono ?_
    rintro e w2 ⟨rfl,hf2⟩
    have HF2:=hid (HFR.out.trans hf2)
    clear hf2 g0 g1 g2
    cases hgd : good a with
    | true =>
     have hall : l.any good = true:=by
      rw [List.any_eq_true]
      exact ⟨a,List.mem_of_getElem? HMA.out,hgd⟩
     have HAL:=hid hall
     have hp : decide (0 ≤ (i : Int)) = true:=by simp
     have HP:=hid hp
     clear hgd hall hp
     go_wp2_with fail
     go_ret
     exact ⟨_,rfl,by rw [HAL.out];exact HP.out,HF2.out⟩
    | false =>
     have HB:=hid hgd
     clear hgd
     go_wp2_with fail
     go_roundw
     case rel => exact ⟨i + 1,by go_num,by omega,HF2,hid (fun j hj t ht => by
      by_cases hj' : j < i
      ·exact HG.out j hj' t ht
      ·obtain rfl : j = i:=by omega
       rw [HMA.out] at ht
       cases ht
       exact HB.out)⟩
     case measure => simp [RowKit.intOf];omega
   ·have hd2 : decide ((i : Int) < (n : Int)) = false:=by simp;omega
    have hd3 : decide (i < n) = false:=by simpa using hlt
    have hall : l.any good = false:=by
     rw [List.any_eq_false]
     intro t ht
     obtain ⟨j,hj,rfl⟩:=List.getElem_of_mem ht
     have:=HG.out j (by have:=HN2.out;omega) _ (List.getElem?_eq_getElem hj)
     simp [this]
    have HAL:=hid hall
    clear hall
    go_wp2_with fail
    go_ret
    exact ⟨_,rfl,by rw [HAL.out];rfl,HFR.out⟩
theorem containsfunc_any (F : Nat) (caps : Array Value) (N : Nat → Prop) (good : Ty → Bool) (hE : Enters F) (l : List Ty) (w : World)
  (hF : ∀ a ∈ l,∀ (cs : List Value) (wr : World),Fr [] w wr → TyV wr N a cs → Calls Try.prog F (#[.agg cs.toArray] ++ caps) wr (LookP (good a) wr))
  (v : Value) (h : TysV w N l v) :
  Calls Try.prog 77 #[v,.func (.func F) #[] caps] w (LookP (l.any good) w):=by
 have HC:=hid (indexfunc_any F caps N good hE l w hF v h)
 obtain ⟨p,c,rfl⟩:=h.shape
 clear hF h
 go_enter Try.func77,Try.ntmps77
 go_wp2_with fail
 refine HC.out.mono ?_
 rintro e w2 ⟨n,rfl,hn,hf⟩
 have HN:=hid hn
 have HFR:=hid hf
 clear hn hf
 go_wp2_with fail
 go_ret
 exact ⟨by rw [← HN.out];rfl,HFR.out⟩
end Go.Proofs.Ytcdlnhfgehhkcaa
