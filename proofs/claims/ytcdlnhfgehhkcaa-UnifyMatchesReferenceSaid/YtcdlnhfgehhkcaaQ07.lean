/- part of the proof -/
import Derived.Test.YtcdlnhfgehhkcaaQ06
import Derived.Deep.RegionHeld3
set_option linter.unusedVariables false
set_option linter.unusedSimpArgs false
set_option linter.unusedSectionVars false
namespace Go.Proofs.Ytcdlnhfgehhkcaa
open Go.RowKit Go.Lib
open Un (kd nm ar size sizes depth depths)
structure Tm where
 t : Ty
 args : List Int
 next : Int
namespace Un
mutual
def add : List Tm → Ty → List Tm × Int
 | ts,.mk k i al => if k = 9 then (ts,i) else ((adds ts al).1 ++ [⟨.mk k i al,(adds ts al).2,(adds ts al).1.length⟩],(adds ts al).1.length)
def adds : List Tm → List Ty → List Tm × List Int
 | ts,[] => (ts,[])
 | ts,a :: r => ((adds (add ts a).1 r).1,(add ts a).2 :: (adds (add ts a).1 r).2)
end
theorem add_eq (ts : List Tm) (t : Ty) : add ts t = if kd t = 9 then (ts,nm t) else ((adds ts (ar t)).1 ++ [⟨t,(adds ts (ar t)).2,(adds ts (ar t)).1.length⟩],(adds ts (ar t)).1.length):=by cases t;rw [add];rfl
theorem add_len : ∀ (t : Ty) (ts : List Tm),(add ts t).1.length ≤ ts.length + size t:=by
 refine Ty.ind fun k i al ih => ?_
 intro ts
 rw [add,size]
 split
 ·simp
 ·have key : ∀ (l : List Ty),(∀ a ∈ l,∀ ts,(add ts a).1.length ≤ ts.length + size a) → ∀ ts,(adds ts l).1.length ≤ ts.length + sizes l:=by
   intro l
   induction l with
   | nil => intro _ ts;rw [adds,sizes];simp
   | cons a r ihr =>
    intro h ts
    rw [adds,sizes]
    have h1:=h a (by simp) ts
    have h2:=ihr (fun b hb => h b (by simp [hb])) (add ts a).1
    simp only
    omega
  have:=key al ih ts
  simp;omega
theorem adds_len2 : ∀ (l : List Ty) (ts : List Tm),(adds ts l).2.length = l.length
 | [],ts => by rw [adds];rfl
 | a :: r,ts => by rw [adds];simp [adds_len2 r]
theorem adds_len1 : ∀ (l : List Ty) (ts : List Tm),(adds ts l).1.length ≤ ts.length + sizes l
 | [],ts => by rw [adds];simp
 | a :: r,ts => by
  rw [adds,sizes]
  have h1:=add_len a ts
  have h2:=adds_len1 r (add ts a).1
  simp only
  omega
theorem adds_step {l : List Ty} {ts : List Tm} {f : List Tm} {o : List Int} {i : Nat} (hi : i < l.length) (h : adds ts (l.drop i) = (f,o.drop i)) (ho : o.length = l.length) :
  adds (add ts l[i]).1 (l.drop (i + 1)) = (f,o.drop (i + 1)) ∧ o.take (i + 1) = o.take i ++ [(add ts l[i]).2]:=by
 have hi2 : i < o.length:=by omega
 rw [List.drop_eq_getElem_cons hi,List.drop_eq_getElem_cons hi2,adds] at h
 simp only [Prod.mk.injEq,List.cons.injEq] at h
 obtain ⟨h1,h2,h3⟩:=h
 refine ⟨by rw [← h1,← h3],?_⟩
 rw [List.take_succ_eq_append_getElem hi2,h2]
end Un
def qTm (x : Tm) : Q:=(qTy x.t).app (.sl 3 1 x.args.length (rowsQ qInt x.args) (.int x.next .nil))
theorem ln_qTm (x : Tm) : (qTm x).ln = 5:=by rw [qTm,Q.ln_app,ln_qTy];rfl
structure SolV (w : World) (N : Nat → Prop) (b : Nat) (n : Int) (ts : List Tm) (tv : Value) : Prop where
 blk : Blk w b 107 #[.int .i64 n,tv]
 l : OwnL w (fun k => k ≠ b ∧ N k) (b + 1) 109 5 ts.length (rowsQ qTm ts) tv
theorem OwnL.keepX {w w' : World} {N : Nat → Prop} {B E s n : Nat} {q : Q} {v : Value} (h : OwnL w N B E s n q v) {X : List Nat} (hf : Fr X w w') (hX : ∀ k ∈ X,v.ownBlock ≠ some k ∧ ¬ N k) : OwnL w' N B E s n q v:=by
 obtain ⟨xs,h,hq⟩:=h
 refine ⟨xs,⟨h.1,?_⟩,hq.keep hf (fun k hk hN hx => (hX k hx).2 hN.1)⟩
 rcases h.2 with h | ⟨g,cap,cur,rfl,hB,hg,r⟩
 ·exact .inl h
 ·exact .inr ⟨g,cap,cur,rfl,hB,(hf.block g (Array.getElem?_eq_some_iff.1 hg).1 (fun hx => (hX g hx).1 rfl)).trans hg,r⟩
theorem SolV.keep0 {w w' : World} {N : Nat → Prop} {b : Nat} {n : Int} {ts : List Tm} {tv : Value} (h : SolV w N b n ts tv) (hf : Fr [] w w') : SolV w' N b n ts tv:=⟨h.blk.keep hf (by simp),h.l.keep hf (by simp)⟩
theorem SolV.shape {w : World} {N : Nat → Prop} {b : Nat} {n : Int} {ts : List Tm} {tv : Value} (h : SolV w N b n ts tv) : ∃ p c,tv = .slice p ts.length c:=h.l.shape
theorem SolV.lt {w : World} {N : Nat → Prop} {b : Nat} {n : Int} {ts : List Tm} {tv : Value} (h : SolV w N b n ts tv) : b < w.heap.size:=h.blk.lt
theorem SolV.weak {w : World} {N N' : Nat → Prop} {b : Nat} {n : Int} {ts : List Tm} {tv : Value} (h : SolV w N b n ts tv) (hN : ∀ k,k < w.heap.size → N k → N' k) : SolV w N' b n ts tv:=⟨h.blk,h.l.weak (Nat.le_refl _) (fun k hk hx => ⟨hx.1,hN k hk hx.2⟩)⟩
theorem SolV.beside {w w' : World} {N : Nat → Prop} {b : Nat} {n : Int} {ts : List Tm} {tv : Value} (h : SolV w N b n ts tv) {X : List Nat} (hf : Fr X w w') (hX : ∀ k ∈ X,k ≠ b ∧ tv.ownBlock ≠ some k ∧ ¬ N k) : SolV w' N b n ts tv:=
 ⟨h.blk.keep hf (fun hx => (hX b hx).1 rfl),h.l.keepX hf (fun k hk => ⟨(hX k hk).2.1,fun hx => (hX k hk).2.2 hx.2⟩)⟩
structure SolFr (b : Nat) (tv tv' : Value) (w w' : World) : Prop where
 size : w.heap.size ≤ w'.heap.size
 os : w'.os = w.os
 tape : w'.tape = w.tape
 output : w'.output = w.output
 block : ∀ k,k < w.heap.size → k ≠ b → tv.ownBlock ≠ some k → w'.heap[k]? = w.heap[k]?
 own : ∀ g,tv'.ownBlock = some g → tv.ownBlock = some g ∨ w.heap.size ≤ g
theorem SolFr.refl (b : Nat) (tv : Value) (w : World) : SolFr b tv tv w w:=⟨Nat.le_refl _,rfl,rfl,rfl,fun _ _ _ _ => rfl,fun _ h => .inl h⟩
theorem SolFr.of_fr {b : Nat} {tv : Value} {w w' : World} (h : Fr [] w w') : SolFr b tv tv w w':=⟨h.size,h.os,h.tape,h.output,fun k hk _ _ => h.block k hk (by simp),fun _ h => .inl h⟩
theorem SolFr.trans {b : Nat} {t1 t2 t3 : Value} {w1 w2 w3 : World} (h : SolFr b t1 t2 w1 w2) (k : SolFr b t2 t3 w2 w3) : SolFr b t1 t3 w1 w3:=
 ⟨Nat.le_trans h.size k.size,k.os.trans h.os,k.tape.trans h.tape,k.output.trans h.output,fun i hi hb ho => (k.block i (Nat.lt_of_lt_of_le hi h.size) hb (fun e => by rcases h.own i e with e' | e';exact ho e';omega)).trans (h.block i hi hb ho),
  fun g hg => by
   have hz:=h.size
   rcases k.own g hg with e | e
   ·exact h.own g e
   ·exact .inr (by omega)⟩
theorem SolFr.grown {b : Nat} {tv tv' : Value} {w w1 w2 : World} {row : Option Nat} (h : SolFr b tv tv' w w1) (hg : w1.grownBy w2 row) (hr : ∀ g,row = some g → w.heap.size ≤ g) : SolFr b tv tv' w w2:=
 ⟨Nat.le_trans h.size hg.size,hg.os.trans h.os,hg.tape.trans h.tape,hg.output.trans h.output,fun k hk hb ho => (hg.block k (Nat.lt_of_lt_of_le hk h.size) (fun e => by have:=hr k e.symm;omega)).trans (h.block k hk hb ho),h.own⟩
theorem SolV.grown {w w' : World} {N : Nat → Prop} {b : Nat} {n : Int} {ts : List Tm} {tv v v' : Value} (h : SolV w (fun k => N k ∧ v.ownBlock ≠ some k) b n ts tv) (hg : w.grownBy w' v.ownBlock) (hv : ∀ k,v'.ownBlock = some k → w.heap.size ≤ k ∨ v.ownBlock = some k)
  (hb : ∀ g,v.ownBlock = some g → g ≠ b ∧ tv.ownBlock ≠ some g) : SolV w' (fun k => N k ∧ v'.ownBlock ≠ some k) b n ts tv:=by
 have h1 : SolV w (fun k => (N k ∧ v.ownBlock ≠ some k) ∧ v'.ownBlock ≠ some k) b n ts tv:=h.weak (fun k hk hx => ⟨hx,fun e => by
  rcases hv k e with h2 | h2
  ·omega
  ·exact hx.2 h2⟩)
 have h2 : SolV w' (fun k => (N k ∧ v.ownBlock ≠ some k) ∧ v'.ownBlock ≠ some k) b n ts tv:=h1.beside (X:=v.ownBlock.toList) ⟨hg.os,hg.tape,hg.output,hg.size,fun k hk hx => hg.block k hk (fun e => hx (by simp [← e]))⟩ (fun k hk => by
  have e : v.ownBlock = some k:=by simpa using hk
  exact ⟨(hb k e).1,(hb k e).2,fun hx => hx.1.2 e⟩)
 exact h2.weak (fun k _ hx => ⟨hx.1.1,hx.2⟩)
theorem SolFr.fr {b : Nat} {tv tv' : Value} {w w' : World} (h : SolFr b tv tv' w w') {X : List Nat} (hb : b ∈ X) (ho : ∀ g,tv.ownBlock = some g → g ∈ X) : Fr X w w':=
 ⟨h.os,h.tape,h.output,h.size,fun k hk hx => h.block k hk (fun e => hx (e ▸ hb)) (fun e => hx (ho k e))⟩
theorem SolFr.blk {b : Nat} {tv tv' : Value} {w w' : World} (h : SolFr b tv tv' w w') {k T : Nat} {cs : Array Value} (hB : Blk w k T cs) (hb : k ≠ b) (ho : tv.ownBlock ≠ some k) : Blk w' k T cs ∧ tv'.ownBlock ≠ some k:=
 ⟨(h.block k hB.lt hb ho).trans hB,fun e => by
  have:=hB.lt
  rcases h.own k e with h1 | h1
  ·exact ho h1
  ·omega⟩
theorem SolFr.inn {b : Nat} {tv tv' : Value} {w w' : World} (h : SolFr b tv tv' w w') {N : Nat → Prop} {q : Q} {cs : List Value} (hq : InN w N q cs) (hN : ∀ k,k < w.heap.size → N k → k ≠ b ∧ tv.ownBlock ≠ some k) : InN w' N q cs:=
 hq.mono (fun k h1 h2 => ⟨h1,Nat.lt_of_lt_of_le h2 h.size,h.block k h2 (hN k h2 h1).1 (hN k h2 h1).2⟩)
theorem SolFr.ownl {b : Nat} {tv tv' : Value} {w w' : World} (h : SolFr b tv tv' w w') {N : Nat → Prop} {B E s n : Nat} {q : Q} {v : Value} (hL : OwnL w N B E s n q v) (hv : ∀ g,v.ownBlock = some g → g ≠ b ∧ tv.ownBlock ≠ some g) (hN : ∀ k,k < w.heap.size → N k → k ≠ b ∧ tv.ownBlock ≠ some k) :
  OwnL w' N B E s n q v:=by
 obtain ⟨xs,h1,hq⟩:=hL
 refine ⟨xs,⟨h1.1,?_⟩,h.inn hq (fun k hk hx => hN k hk hx.1)⟩
 rcases h1.2 with h2 | ⟨g,cap,cur,rfl,hB,hg,r⟩
 ·exact .inl h2
 ·have:=hv g rfl
  exact .inr ⟨g,cap,cur,rfl,hB,(h.block g (Array.getElem?_eq_some_iff.1 hg).1 this.1 this.2).trans hg,r⟩
def AddP (N : Nat → Prop) (b : Nat) (n : Int) (tv : Value) (r : List Tm × Int) (w : World) (e : Ending) (w' : World) : Prop:=e = .returned (.int .i64 r.2) ∧ ∃ tv',SolV w' N b n r.1 tv' ∧ SolFr b tv tv' w w'
theorem info_term : (Try.prog.info? 109).map (fun i => (i.zero,i.size,i.bytes)) = some (some (.agg #[.int .i64 0,.int .i64 0,.slice none 0 0,.slice none 0 0,.int .i64 0]),5,72):=by kernel_rfl
theorem ownl_ready2 {B E s n : Nat} {q qb : Q} {v : Value} {w5 : World} {N : Nat → Prop} {news : List Value} (hL : OwnL w5 N B E s n q v) (hB : B ≤ w5.heap.size)
  (hq : InN w5 (fun k => N k ∧ v.ownBlock ≠ some k) qb news) (E' : Nat) :
  OwnL (w5.alloc (.cells news.toArray E')) N B E s n q v ∧ (∀ j u,news[j]? = some u → (w5.alloc (.cells news.toArray E')).cell? ((⟨w5.heap.size,0,none⟩ : Addr).add j) = some u) ∧
   InN (w5.alloc (.cells news.toArray E')) (fun k => N k ∧ some k ≠ v.ownBlock) qb news ∧ B ≤ (w5.alloc (.cells news.toArray E')).heap.size:=by
 refine ⟨hL.keep (X:=[]) ((Fr.refl _ _).alloc _) (by simp),fun j u hj => ?_,hq.mono (fun k hk hl => ⟨⟨hk.1,fun e => hk.2 e.symm⟩,Nat.lt_of_lt_of_le hl (by simp),Below.heap_alloc _ _ _ hl⟩),by simp;omega⟩
 have hb:=(Blk.new w5 E' news.toArray).cell j
 have e : (⟨w5.heap.size,0,none⟩ : Addr).add j = ⟨w5.heap.size,j,none⟩:=by
  simp only [Addr.add,Nat.zero_add]
  split
  ·rename_i h;subst h;rfl
  ·rfl
 rw [e,hb];simpa using hj
set_option maxRecDepth 100000 in
set_option maxHeartbeats 3200000 in
theorem add_any (b : Nat) (n : Int) : ∀ (m : Nat) (t : Ty),size t ≤ m → ∀ (N : Nat → Prop) (ts : List Tm) (tv : Value) (cs : List Value) (w : World),SolV w N b n ts tv → (∀ k,k < b → N k) → (∀ k,w.heap.size ≤ k → N k) → TyV w (fun k => k < b) t cs → ts.length + size t ≤ 100000 →
  Calls Try.prog 68 #[.pointer (some ⟨b,0,none⟩),.agg cs.toArray] w (AddP N b n tv (Un.add ts t) w):=by
 intro m
 induction m with
 | zero => intro t h;exact absurd (Un.size_pos t) (by omega)
 | succ m ih =>
  intro t hm N ts tv cs w hS hN0 hN1 h hsz
  have IH : Hid (∀ a ∈ ar t,∀ (N : Nat → Prop) (ts : List Tm) (tv : Value) (cs : List Value) (w : World),SolV w N b n ts tv → (∀ k,k < b → N k) → (∀ k,w.heap.size ≤ k → N k) → TyV w (fun k => k < b) a cs → ts.length + size a ≤ 100000 → Calls Try.prog 68 #[.pointer (some ⟨b,0,none⟩),.agg cs.toArray] w (AddP N b n tv (Un.add ts a) w)):=hid fun a ha => ih a (by have:=size_ar ha;omega)
  obtain ⟨R,hR⟩ : ∃ R,R = Un.add ts t:=⟨_,rfl⟩
  have hE:=Un.add_eq ts t
  rw [← hR] at hE ⊢
  have HT:=hid h
  have HS:=hid hS
  have HN0:=hid hN0
  have HN1:=hid hN1
  clear hN0 hN1
  obtain ⟨p,c,rfl,ha⟩:=h.shape
  obtain ⟨w1,hw1⟩ : ∃ w1,w1 = w.alloc (.cells #[.int .i64 (kd t),.int .i64 (nm t),.slice p (ar t).length c] 24):=⟨_,rfl⟩
  have HF0 : Hid (Fr [] w w1):=hid (by rw [hw1];exact (Fr.refl _ _).alloc _)
  have HB0 : Hid (Blk w1 w.heap.size 24 #[.int .i64 (kd t),.int .i64 (nm t),.slice p (ar t).length c]):=hid (by rw [hw1];exact Blk.new _ _ _)
  by_cases h9 : kd t = 9
  ·have e1 : (kd t == 9) = true:=by simp [h9]
   rw [if_pos h9] at hE
   have HE:=hid hE
   clear hE h ha ih hR h9 hS hsz
   go_enter Try.func68,Try.ntmps68
   go_wp2_with fail
   go_ret
   refine ⟨by rw [HE.out];rfl,tv,?_,?_⟩
   ·rw [HE.out,← hw1];exact HS.out.keep0 HF0.out
   ·rw [← hw1];exact SolFr.of_fr HF0.out
  ·have e1 : (kd t == 9) = false:=by simp [h9]
   rw [if_neg h9] at hE
   have HE:=hid hE
   have hsm : ts.length + sizes (ar t) + 1 ≤ 100000:=by have:=size_eq t;omega
   have hlm : (ar t).length ≤ 100000:=by have:=Un.sizes_len (ar t);omega
   have HA:=hid ha
   obtain ⟨l,hl⟩ : ∃ l,l = ar t:=⟨_,rfl⟩
   rw [← hl] at IH HE HA HB0 hsm hlm hw1 ⊢
   obtain ⟨fin,hfin⟩ : ∃ fin,fin = (Un.adds ts l).1:=⟨_,rfl⟩
   obtain ⟨out,hout⟩ : ∃ out,out = (Un.adds ts l).2:=⟨_,rfl⟩
   rw [← hfin,← hout] at HE
   have HOL : Hid (out.length = l.length):=hid (by rw [hout];exact Un.adds_len2 _ _)
   have HFL : Hid (fin.length ≤ ts.length + sizes l):=hid (by rw [hfin];exact Un.adds_len1 _ _)
   have HAD : Hid (Un.adds ts (l.drop 0) = (fin,out.drop 0)):=hid (by rw [hfin,hout];rfl)
   have HTL : Hid (ar t = l):=hid hl.symm
   clear hE h ha ih hR h9 hS hsz hfin hout hl hm
   go_enter Try.func68,Try.ntmps68
   go_wp2_with fail
   rw [← hw1]
   clear hw1
   refine (grow_int l.length w1 (by omega)).mono ?_
   rintro e w2 ⟨v0,rfl,hown,hf2⟩
   have HO:=hid (hown (fun _ => False))
   have HF2:=hid (HF0.out.trans hf2)
   have HB2:=hid (HB0.out.keep hf2 (by simp))
   have HS2 : Hid (SolV w2 (fun k => N k ∧ v0.ownBlock ≠ some k) b n ts tv):=hid ((HS.out.weak (N':=fun k => N k ∧ v0.ownBlock ≠ some k) (fun k hk hx => ⟨hx,fun e => by
    have h1:=(HO.out.own k e).1
    have h2:=HF0.out.size
    omega⟩)).keep0 HF2.out)
   have HZ2 : Hid (w.heap.size < w1.heap.size ∧ w1.heap.size ≤ w2.heap.size):=hid ⟨HB0.out.lt,hf2.size⟩
   clear hown hf2 HB0
   have hb0 : w.heap.size < w2.heap.size:=HB2.out.lt
   have b2 : w2.cell? ⟨w.heap.size,2,none⟩ = some (.slice p l.length c):=HB2.out.cell 2
   go_wp2_with fail
   clear b2 hb0
   obtain ⟨i0,hi0,hz0,hz1,hz2⟩:=info_parts info_int
   have HI0:=hid hi0
   have HZ0:=hid hz0
   have HZ1:=hid hz1
   have HZ2':=hid hz2
   clear hi0 hz0 hz1 hz2
   go_loopw [5,20] (fun v x wr => ∃ (j : Nat) (ts' : List Tm) (tv' : Value),x = .int .i64 j ∧ j ≤ l.length ∧ ts'.length + sizes (l.drop j) ≤ ts.length + sizes l ∧ Hid (SolV wr (fun k => N k ∧ v.ownBlock ≠ some k) b n ts' tv') ∧ Hid (SolFr b tv tv' w wr) ∧ Hid (Blk wr w.heap.size 24 #[.int .i64 (kd t),.int .i64 (nm t),.slice p l.length c]) ∧ Hid (Un.adds ts' (l.drop j) = (fin,out.drop j)) ∧ Hid (OwnL wr (fun _ => False) w1.heap.size 3 1 j (rowsQ qInt (out.take j)) v) ∧ Hid (∀ g,v.ownBlock = some g → tv'.ownBlock ≠ some g) ∧ Hid (w2.heap.size ≤ wr.heap.size) ∧ Hid (tv'.ownBlock ≠ some w.heap.size)) (fun _ x _ => l.length - (RowKit.intOf x).toNat)
   case atStart =>
    refine ⟨0,ts,tv,rfl,Nat.zero_le _,by simp,HS2,hid (SolFr.of_fr HF2.out),HB2,HAD,by rw [List.take_zero,rowsQ];exact HO,hid (fun g hg e => ?_),hid (Nat.le_refl _),hid (fun e => by have:=(HS.out.l.own _ e).2;omega)⟩
    have h1:=(HO.out.own g hg).1
    have h2:=(HS.out.l.own g e).2
    have:=HZ2.out
    omega
   case round =>
    obtain ⟨j,ts',tv',rfl,hj,hsz',HS',HFR,HBR,HAD',HO',HNE,HZ,HNP⟩:=hrel
    obtain ⟨pv,cv,rfl⟩:=HO'.out.shape
    have hbl : b < w.heap.size:=HS.out.lt
    by_cases hlt : j < l.length
    ·have hd2 : decide ((j : Int) < (l.length : Int)) = true:=by simp;omega
     have hd3 : decide (j < l.length) = true:=by simpa using hlt
     obtain ⟨bb,o,rfl,hat⟩ : ∃ bb o,p = some ⟨bb,o,none⟩ ∧ TysAt w (fun k => k < b) l bb o:=by
      rcases HA.out.cases with ⟨rfl,_⟩ | ⟨_,bb,o,cap,heq,_,_,hat⟩
      ·simp at hlt
      ·simp only [Value.slice.injEq] at heq
       exact ⟨bb,o,heq.1,hat⟩
     have hown0 : ∀ g,tv.ownBlock = some g → b + 1 ≤ g:=fun g hg => (HS.out.l.own g hg).1
     obtain ⟨p1,c1,k1,hb,g0,g1,g2⟩:=hat.el (X:=b :: tv.ownBlock.toList) (HFR.out.fr (by simp) (fun g hg => by simp [hg])) (fun k hk => by
      rcases List.mem_cons.1 hk with rfl | hk
      ·omega
      ·have:=hown0 k (by simpa using hk)
       omega) (List.getElem?_eq_getElem hlt)
     obtain ⟨m1,m2⟩:=Un.adds_step hlt HAD'.out HOL.out
     have K1:=hid k1
     have hszj : sizes (l.drop j) = size l[j] + sizes (l.drop (j + 1)):=by rw [List.drop_eq_getElem_cons hlt,Un.sizes]
     obtain ⟨a,hax⟩ : ∃ a,a = l[j]:=⟨_,rfl⟩
     have HMA : Hid (a ∈ l):=hid (by rw [hax];exact List.getElem_mem _)
     rw [← hax] at g0 g1 g2 K1 m1 m2 hszj
     have M1:=hid m1
     have M2:=hid m2
     have HSJ:=hid hszj
     clear k1 m1 m2 hat hax hszj hown0
     go_wp2_with fail
     have hf0 : Fr [] wr (wr.alloc (.cells #[.int .i64 (kd a),.int .i64 (nm a),.slice p1 (ar a).length c1] 24)):=(Fr.refl _ _).alloc _
     refine (IH.out a HMA.out (fun k => N k ∧ (Value.slice pv j cv).ownBlock ≠ some k) ts' tv' _ _ (HS'.out.keep0 hf0) (fun k hk => ⟨HN0.out k hk,fun e => by
       have h1:=(HO'.out.own k e).1
       have:=HZ2.out
       omega⟩) (fun k hk => ⟨HN1.out k (by
       have h1:=hf0.size
       have h2:=HZ.out
       have:=HZ2.out
       omega),fun e => by
       have h1:=(HO'.out.own k e).2
       have:=hf0.size
       omega⟩) (K1.out.keep0 hf0) (by have:=HSJ.out;omega)).mono ?_
     rintro e w5 ⟨rfl,tv5,hs5,hf5⟩
     obtain ⟨y,hy⟩ : ∃ y,y = (Un.add ts' a).2:=⟨_,rfl⟩
     rw [← hy] at M2 ⊢
     have hlen5:=Un.add_len a ts'
     obtain ⟨ts5,hts5⟩ : ∃ ts5,ts5 = (Un.add ts' a).1:=⟨_,rfl⟩
     rw [← hts5] at hs5 M1 hlen5
     have hsj:=HSJ.out
     have hsz5 : ts5.length + sizes (l.drop (j + 1)) ≤ ts.length + sizes l:=by omega
     have hf15 : SolFr b tv' tv5 wr w5:=(SolFr.of_fr hf0).trans hf5
     have hvb : ∀ g,(Value.slice pv j cv).ownBlock = some g → g ≠ b ∧ tv'.ownBlock ≠ some g:=fun g hg => ⟨by have h1:=(HO'.out.own g hg).1;have:=HZ2.out;omega,HNE.out g hg⟩
     have hO5 : OwnL w5 (fun _ => False) w1.heap.size 3 1 j (rowsQ qInt (out.take j)) (.slice pv j cv):=hf15.ownl HO'.out hvb (fun k _ h => h.elim)
     have hne5 : ∀ g,(Value.slice pv j cv).ownBlock = some g → tv5.ownBlock ≠ some g:=fun g hg e => by
      have h1:=(HO'.out.own g hg).2
      rcases hf15.own g e with h2 | h2
      ·exact HNE.out g hg h2
      ·omega
     have hB5:=hf15.blk HBR.out (by omega) HNP.out
     have hZ5:=hf15.size
     obtain ⟨w6,hw6⟩ : ∃ w6,w6 = w5.alloc (.cells #[.int .i64 y] 3):=⟨_,rfl⟩
     obtain ⟨r1,r2,r3,r4⟩:=ownl_ready (news:=[.int .i64 y]) hO5 (Fr.refl [] w5) (by simp) (by have:=HZ.out;have:=HZ2.out;omega) (inn_ints [y]) (N':=fun _ => False) (fun k h => h.elim) 3
     have R1:=hid r1
     have R2:=hid r2
     have R3:=hid r3
     have HS5:=hid hs5
     have HF15:=hid hf15
     have HB5:=hid hB5
     have HNE5:=hid hne5
     have HO5:=hid hO5
     clear r1 r2 r3 hs5 hf15 hB5 hne5 hO5 hf5 hf0 hy hts5 g0 g1 g2 hvb hlen5 hw6
     go_wp2_with (at_builtin;refine wpList_append_ownl _ rfl _ _ 28 rfl (fun _ => False) w1.heap.size 3 i0 _ 1 8 Try.underlying28 HI0.out HZ0.out HZ1.out HZ2'.out rfl (by decide) (.slice pv j cv) j 1 (rowsQ qInt (out.take j)) (rowsQ qInt [y]) rfl R1.out ⟨w5.heap.size,0,none⟩ 1 [.int .i64 y] rfl rfl R2.out R3.out (by omega) (by decide) r4 ?_)
     intro v' w7 hL7 hg7 hv7
     have hvb5 : ∀ g,(Value.slice pv j cv).ownBlock = some g → g ≠ b ∧ tv5.ownBlock ≠ some g:=fun g hg => ⟨by have h1:=(HO5.out.own g hg).1;have:=HZ2.out;omega,HNE5.out g hg⟩
     have HS7:=hid ((HS5.out.keep0 ((Fr.refl _ _).alloc (.cells #[.int .i64 y] 3))).grown hg7 (v':=v') (fun k hk => by simpa using hv7 k hk) hvb5)
     have HF7 : Hid (SolFr b tv tv5 w w7):=hid (((HFR.out.trans HF15.out).trans (SolFr.of_fr ((Fr.refl _ _).alloc (.cells #[.int .i64 y] 3)))).grown hg7 (fun g hg => by have h1:=(HO5.out.own g hg).1;have:=HZ2.out;omega))
     have HB7 : Hid (Blk w7 w.heap.size 24 #[.int .i64 (kd t),.int .i64 (nm t),.slice (some ⟨bb,o,none⟩) l.length c]):=hid ((hg7.block _ (by have:=HB5.out.1.lt;simp;omega) (fun e => by have h1:=(HO5.out.own _ e.symm).1;have:=HZ2.out;omega)).trans (HB5.out.1.alloc _))
     have HNE7 : Hid (∀ g,v'.ownBlock = some g → tv5.ownBlock ≠ some g):=hid (fun g hg e => by
      rcases hv7 g hg with h1 | h1
      ·have h2:=(HS5.out.l.own g e).2
       omega
      ·exact HNE5.out g h1 e)
     have HZ7 : Hid (w2.heap.size ≤ w7.heap.size):=hid (by have h1:=hg7.size;have:=HZ.out;simp at h1;omega)
     have HL7:=hid hL7
     have HNP7:=hid HB5.out.2
     clear hL7 hg7 hv7 hvb5
     go_wp2_with fail
     go_roundw
     case rel => exact ⟨j + 1,ts5,tv5,by go_num,by omega,hsz5,HS7,HF7,HB7,M1,hid (by rw [M2.out,rowsQ_app];exact HL7.out),HNE7,HZ7,HNP7⟩
     case measure => simp [RowKit.intOf];omega
    ·have hd2 : decide ((j : Int) < (l.length : Int)) = false:=by simp;omega
     have hd3 : decide (j < l.length) = false:=by simpa using hlt
     obtain rfl : j = l.length:=by omega
     have htk : out.take l.length = out:=List.take_of_length_le (by rw [HOL.out];exact Nat.le_refl _)
     have hts : ts' = fin:=by
      have h1:=HAD'.out
      rw [List.drop_eq_nil_of_le (Nat.le_refl _),Un.adds] at h1
      simp only [Prod.mk.injEq] at h1
      exact h1.1
     subst hts
     have hO:=HO'.out
     rw [htk] at hO
     have hflen : ts'.length ≤ 100000:=by have:=HFL.out;omega
     have hbo : ∀ g,(Value.slice pv l.length cv).ownBlock = some g → g ≠ b ∧ tv'.ownBlock ≠ some g:=fun g hg => ⟨by have h1:=(HO'.out.own g hg).1;have:=HZ2.out;omega,HNE.out g hg⟩
     have hargs : InN wr (fun k => (k ≠ b ∧ N k) ∧ tv'.ownBlock ≠ some k) (.sl 3 1 out.length (rowsQ qInt out) .nil) [.slice pv l.length cv]:=by
      have h1:=hO.inn2 (N':=fun k => (k ≠ b ∧ N k) ∧ tv'.ownBlock ≠ some k) (fun k _ h => h.elim) (fun g hg => ⟨⟨(hbo g hg).1,HN1.out g (by have h1:=(HO'.out.own g hg).1;have:=HZ2.out;omega)⟩,(hbo g hg).2⟩)
      rw [HOL.out]
      exact h1
     have htyp : TyV wr (fun k => (k ≠ b ∧ N k) ∧ tv'.ownBlock ≠ some k) t [.int .i64 (kd t),.int .i64 (nm t),.slice p (ar t).length c]:=
      (HFR.out.inn HT.out (fun k _ hk => ⟨by omega,fun e => by have:=(HS.out.l.own k e).1;omega⟩)).weak (fun k _ hk => ⟨⟨by omega,HN0.out k hk⟩,fun e => by have:=(HS'.out.l.own k e).1;omega⟩)
     rw [HTL.out] at htyp
     have hS3 : SolV wr N b n ts' tv':=HS'.out.weak (fun k _ hx => hx.1)
     obtain ⟨pt,ct,rfl⟩:=hS3.shape
     have hrow : InN wr (fun k => (k ≠ b ∧ N k) ∧ (Value.slice pt ts'.length ct).ownBlock ≠ some k) (qTm ⟨t,out,ts'.length⟩) [.int .i64 (kd t),.int .i64 (nm t),.slice p l.length c,.slice pv l.length cv,.int .i64 ts'.length]:=
      InN.app (y:=.sl 3 1 out.length (rowsQ qInt out) (.int ts'.length .nil)) htyp (InN.mk_sl hargs (InN.mk_int (InN.mk_nil _ _)))
     obtain ⟨j0,hj0,jz0,jz1,jz2⟩:=info_parts info_term
     have HJ0:=hid hj0
     have s0 : wr.cell? ⟨b,0,none⟩ = some (.int .i64 n):=hS3.blk.cell 0
     have s1 : wr.cell? ⟨b,1,none⟩ = some (.slice pt ts'.length ct):=hS3.blk.cell 1
     have sl : b < wr.heap.size:=hS3.blk.lt
     have c0 : wr.cell? ⟨w.heap.size,0,none⟩ = some (.int .i64 (kd t)):=HBR.out.cell 0
     have c1 : wr.cell? ⟨w.heap.size,1,none⟩ = some (.int .i64 (nm t)):=HBR.out.cell 1
     have c2 : wr.cell? ⟨w.heap.size,2,none⟩ = some (.slice p l.length c):=HBR.out.cell 2
     have cl : w.heap.size < wr.heap.size:=HBR.out.lt
     obtain ⟨g1,g2,g3,g4⟩:=ownl_ready2 (news:=[.int .i64 (kd t),.int .i64 (nm t),.slice p l.length c,.slice pv l.length cv,.int .i64 ts'.length]) (w5:=wr.drew) (hS3.l.keep (Fr.refl [] wr).drew (by simp)) (by show b + 1 ≤ wr.heap.size;omega) (hrow.keep0 (Fr.refl [] wr).drew) 109
     have G1:=hid g1
     have G2:=hid g2
     have G3:=hid g3
     have HS3:=hid hS3
     have HRL : Hid (R = (ts' ++ [⟨t,out,ts'.length⟩],(ts'.length : Int))):=HE
     have HZW : Hid (w.heap.size ≤ wr.heap.size):=hid (by omega)
     clear hrow hargs htyp hS3 hO hbo htk g1 g2 g3 hj0 IH HA HAD' HO' HNE HAD HO HE HS2 HB2
     go_wp2_with fail
     go_region_law (refine step_append_ownl _ (by rfl) _ _ 105 (by rfl) (fun k => k ≠ b ∧ N k) (b + 1) 109 j0 _ 5 72 Try.underlying105 HJ0.out jz0 jz1 jz2 rfl (by decide) (.slice pt ts'.length ct) ts'.length 1 (rowsQ qTm ts') (qTm ⟨t,out,ts'.length⟩) (by rfl) G1.out ⟨wr.heap.size,0,none⟩ 1 [.int .i64 (kd t),.int .i64 (nm t),.slice p l.length c,.slice pv l.length cv,.int .i64 ts'.length] (by rfl) rfl G2.out G3.out (by omega) (by decide) g4 ?_;intro p' c' w4 hL4 hg4 hv4;have hD4:=hid (((HS3.out.blk.keep (Fr.refl [] wr).drew (by simp)).alloc (.cells #[.int .i64 (kd t),.int .i64 (nm t),.slice p l.length c,.slice pv l.length cv,.int .i64 ts'.length] 109)).keep (X:=(Value.slice pt ts'.length ct).ownBlock.toList) ⟨hg4.os,hg4.tape,hg4.output,hg4.size,fun k hk hx => hg4.block k hk (fun e => hx (by simp [← e]))⟩ (fun hx => by have h1:=(HS3.out.l.own b (by simpa using hx)).1;omega));have hk4 : w4.cell? ⟨b,1,none⟩ = some (.slice pt ts'.length ct):=hD4.out.cell 1;have hf4 : w4.frozen? ⟨b,1,none⟩ = false:=hD4.out.frozen 1;have HL4:=hid hL4;have HG4:=hid hg4;have HV4:=hid hv4;clear hL4 hg4 hv4)
     all_goals
      have hSW : SolV (w4.setCell ⟨b,1,none⟩ (.slice p' (ts'.length + 1) c')) N b n (ts' ++ [⟨t,out,ts'.length⟩]) (.slice p' (ts'.length + 1) c'):=
       ⟨hD4.out.set 1 _,by rw [rowsQ_snoc,List.length_append,List.length_singleton];exact HL4.out.keep (X:=[b]) ((Fr.refl [b] _).setCell (.inl (by simp)) _) (by simp)⟩
      have hFW : SolFr b tv (.slice p' (ts'.length + 1) c') w (w4.setCell ⟨b,1,none⟩ (.slice p' (ts'.length + 1) c')):=HFR.out.trans
       ⟨Nat.le_trans (by show wr.heap.size ≤ _;simp) (Nat.le_trans HG4.out.size (by simp [World.setCell])),HG4.out.os,HG4.out.tape,HG4.out.output,fun k hk hb ho => by
        rw [Below.heap_setCell _ _ _ _ hb,HG4.out.block k (by show k < (wr.drew.alloc _).heap.size;simp;omega) (fun e => ho e.symm)]
        exact Below.heap_alloc wr _ k hk,fun g hg => by
        rcases HV4.out g hg with h1 | h1
        ·exact .inr (by have h2 : wr.heap.size ≤ (wr.drew.alloc (Obj.cells #[Value.int .i64 (kd t),.int .i64 (nm t),.slice p l.length c,.slice pv l.length cv,.int .i64 ts'.length] 109)).heap.size:=(by simp);exact Nat.le_trans h2 (by simpa using h1))
        ·exact .inl h1⟩
      have HSW:=hid hSW
      have HFW:=hid hFW
      clear hSW hFW s0 s1 sl c0 c1 c2 cl hk4 hf4 g4
      generalize w4.setCell ⟨b,1,none⟩ (.slice p' (ts'.length + 1) c') = w8 at HSW HFW
      have s1 : w8.cell? ⟨b,1,none⟩ = some (.slice p' (ts'.length + 1) c'):=HSW.out.blk.cell 1
      have sl : b < w8.heap.size:=HSW.out.blk.lt
      go_wp2_with fail
      go_ret
      refine ⟨?_,.slice p' (ts'.length + 1) c',?_,HFW.out⟩
      ·rw [HRL.out]
       show Ending.returned (.int .i64 _) = _
       congr 2
       all_goals first | omega | (unfold wrap64;omega)
      ·rw [HRL.out];exact HSW.out
end Go.Proofs.Ytcdlnhfgehhkcaa
