/- part of the proof -/
import Derived.Test.YtcdlnhfgehhkcaaQ01
set_option linter.unusedVariables false
set_option linter.unusedSimpArgs false
set_option linter.unusedSectionVars false
namespace Go.Proofs.Ytcdlnhfgehhkcaa
open Go.RowKit Go.Lib
open Un (kd nm ar size sizes)
mutual
def mapS {σ : Type} (step : σ → Ty → Option (σ × Option Ty)) : σ → Ty → Option (σ × Ty)
 | s,.mk k i al => match step s (.mk k i al) with
  | none => none
  | some (s',some r) => some (s',r)
  | some (s',none) => match mapSs step s' al with
   | none => none
   | some (s2,rs) => some (s2,.mk k i rs)
def mapSs {σ : Type} (step : σ → Ty → Option (σ × Option Ty)) : σ → List Ty → Option (σ × List Ty)
 | s,[] => some (s,[])
 | s,a :: r => match mapS step s a with
  | none => none
  | some (s',b) => match mapSs step s' r with
   | none => none
   | some (s2,rs) => some (s2,b :: rs)
end
theorem mapSs_len {σ : Type} {step : σ → Ty → Option (σ × Option Ty)} : ∀ {l : List Ty} {s s2 : σ} {rs : List Ty},mapSs step s l = some (s2,rs) → rs.length = l.length
 | [],s,s2,rs,h => by rw [mapSs] at h;cases h;rfl
 | a :: r,s,s2,rs,h => by
  rw [mapSs] at h
  cases h1 : mapS step s a with
  | none => simp [h1] at h
  | some x =>
   obtain ⟨s',b⟩:=x
   cases h2 : mapSs step s' r with
   | none => simp [h1,h2] at h
   | some y =>
    obtain ⟨s3,rs'⟩:=y
    simp [h1,h2] at h
    obtain ⟨_,rfl⟩:=h
    simp [mapSs_len h2]
theorem mapSs_step {σ : Type} {step : σ → Ty → Option (σ × Option Ty)} {s s2 : σ} {l rs : List Ty} {i : Nat} (hi : i < l.length) (h : mapSs step s (l.drop i) = some (s2,rs.drop i)) (hl : rs.length = l.length) :
  ∃ s' b,mapS step s l[i] = some (s',b) ∧ mapSs step s' (l.drop (i + 1)) = some (s2,rs.drop (i + 1)) ∧ rs.take (i + 1) = rs.take i ++ [b]:=by
 have hi2 : i < rs.length:=by omega
 rw [List.drop_eq_getElem_cons hi,List.drop_eq_getElem_cons hi2,mapSs] at h
 cases h1 : mapS step s l[i] with
 | none => simp [h1] at h
 | some x =>
  obtain ⟨s',b⟩:=x
  cases h2 : mapSs step s' (l.drop (i + 1)) with
  | none => simp [h1,h2] at h
  | some y =>
   obtain ⟨s3,rs'⟩:=y
   simp only [h1,h2,Option.some.injEq,Prod.mk.injEq,List.cons.injEq] at h
   obtain ⟨e1,e2,e3⟩:=h
   refine ⟨s',rs[i],by rw [e2],by rw [h2,e1,e3],?_⟩
   rw [List.take_succ_eq_append_getElem hi2]
def StepP {σ : Type} (X : List Nat) (I : σ → World → Prop) (r : σ × Option Ty) (w : World) (e : Ending) (w' : World) : Prop:=
 Fr X w w' ∧ I r.1 w' ∧ ((r.2 = none ∧ e = .returned (.tuple #[.agg #[.int .i64 0,.int .i64 0,.slice none 0 0],.bool false])) ∨ ∃ t ds,r.2 = some t ∧ e = .returned (.tuple #[.agg ds.toArray,.bool true]) ∧ TyV w' (fun k => w.heap.size ≤ k) t ds)
def MadeP {σ : Type} (X : List Nat) (I : σ → World → Prop) (r : σ × Ty) (w : World) (e : Ending) (w' : World) : Prop:=
 Fr X w w' ∧ I r.1 w' ∧ ∃ ds,e = .returned (.agg ds.toArray) ∧ TyV w' (fun k => w.heap.size ≤ k) r.2 ds
structure Kept {σ : Type} (B : Nat) (X : List Nat) (N : Nat → Prop) (I : σ → World → Prop) : Prop where
 keep : ∀ s w w',I s w → w.heap.size ≤ w'.heap.size → (∀ k,k < B → w'.heap[k]? = w.heap[k]?) → I s w'
 size : ∀ s w,I s w → B ≤ w.heap.size
 lt : ∀ k ∈ X,k < B
 apart : ∀ k ∈ X,¬ N k
theorem Kept.fr {σ : Type} {B : Nat} {X : List Nat} {N : Nat → Prop} {I : σ → World → Prop} (h : Kept B X N I) {s : σ} {w w' : World} (hs : I s w) (hf : Fr [] w w') : I s w':=
 h.keep s w w' hs hf.size (fun k hk => hf.block k (Nat.lt_of_lt_of_le hk (h.size s w hs)) (by simp))
theorem ownl_ready {B E s n : Nat} {q qb : Q} {v : Value} {wr w5 : World} {N N' : Nat → Prop} {X : List Nat} {news : List Value} (hL : OwnL wr N B E s n q v) (hf : Fr X wr w5) (hX : ∀ k ∈ X,k < B ∧ ¬ N k) (hB : B ≤ wr.heap.size)
  (hq : InN w5 N' qb news) (hN : ∀ k,N' k → N k ∧ wr.heap.size ≤ k) (E' : Nat) :
  OwnL (w5.alloc (.cells news.toArray E')) N B E s n q v ∧ (∀ j u,news[j]? = some u → (w5.alloc (.cells news.toArray E')).cell? ((⟨w5.heap.size,0,none⟩ : Addr).add j) = some u) ∧
   InN (w5.alloc (.cells news.toArray E')) (fun k => N k ∧ some k ≠ v.ownBlock) qb news ∧ B ≤ (w5.alloc (.cells news.toArray E')).heap.size:=by
 have hz:=hf.size
 refine ⟨(hL.keep hf hX).keep (X:=[]) ((Fr.refl _ _).alloc _) (by simp),fun j u hj => ?_,hq.mono (fun k hk hl => ⟨⟨(hN k hk).1,fun e => ?_⟩,Nat.lt_of_lt_of_le hl (by simp),Below.heap_alloc _ _ _ hl⟩),by simp;omega⟩
 ·have hb:=(Blk.new w5 E' news.toArray).cell j
  have e : (⟨w5.heap.size,0,none⟩ : Addr).add j = ⟨w5.heap.size,j,none⟩:=by
   simp only [Addr.add,Nat.zero_add]
   split
   ·rename_i h;subst h;rfl
   ·rfl
  rw [e,hb];simpa using hj
 ·have:=(hL.own k e.symm).2
  have:=(hN k hk).2
  omega
theorem Blk.set3 {w : World} {b T : Nat} {x y z : Value} (h : Blk w b T #[x,y,z]) (u0 u1 u2 : Value) : Blk (((w.setCell ⟨b,0,none⟩ u0).setCell ⟨b,1,none⟩ u1).setCell ⟨b,2,none⟩ u2) b T #[u0,u1,u2]:=((h.set 0 u0).set 1 u1).set 2 u2
theorem Fr.set3 {X : List Nat} {a w : World} (h : Fr X a w) {b : Nat} (hb : b ∈ X ∨ a.heap.size ≤ b) (u0 u1 u2 : Value) : Fr X a (((w.setCell ⟨b,0,none⟩ u0).setCell ⟨b,1,none⟩ u1).setCell ⟨b,2,none⟩ u2):=((h.setCell hb u0).setCell hb u1).setCell hb u2
theorem set3_block {w : World} {b k : Nat} (u0 u1 u2 : Value) (h : k ≠ b) : (((w.setCell ⟨b,0,none⟩ u0).setCell ⟨b,1,none⟩ u1).setCell ⟨b,2,none⟩ u2).heap[k]? = w.heap[k]?:=by
 rw [Below.heap_setCell _ _ _ _ h,Below.heap_setCell _ _ _ _ h,Below.heap_setCell _ _ _ _ h]
set_option maxRecDepth 100000 in
set_option maxHeartbeats 3200000 in
theorem mapped_any {σ : Type} (F : Nat) (caps : Array Value) (B : Nat) (X : List Nat) (N : Nat → Prop) (I : σ → World → Prop) (step : σ → Ty → Option (σ × Option Ty)) (hE : Enters F) (hK : Kept B X N I) :
  ∀ (n : Nat) (t : Ty),size t ≤ n → n ≤ 100000 → (∀ a,size a ≤ n → ∀ (s : σ) (cs : List Value) (w : World) (r : σ × Option Ty),I s w → TyV w N a cs → step s a = some r → Calls Try.prog F (#[.agg cs.toArray] ++ caps) w (StepP X I r w)) →
  ∀ (s : σ) (cs : List Value) (w : World) (r : σ × Ty),I s w → TyV w N t cs → mapS step s t = some r → Calls Try.prog 52 #[.agg cs.toArray,.func (.func F) #[] caps] w (MadeP X I r w):=by
 have hE' : ∀ (args : Array Value) (w : World),(callFunc F args).run Try.prog w = .ok (.enter F args) w:=hE
 have HK:=hid hK
 intro n
 induction n with
 | zero => intro t h;exact absurd (Un.size_pos t) (by omega)
 | succ n ih =>
  intro t hn hn1 hF s cs w r hs ht hr
  have HF:=hid hF
  have HS:=hid hs
  have IH : Hid (∀ a,size a ≤ n → ∀ (s : σ) (cs : List Value) (w : World) (r : σ × Ty),I s w → TyV w N a cs → mapS step s a = some r → Calls Try.prog 52 #[.agg cs.toArray,.func (.func F) #[] caps] w (MadeP X I r w)):=
   hid (fun a ha => ih a ha (by omega) (fun b hb => hF b (by omega)))
  obtain ⟨p,c,rfl,hargs⟩:=ht.shape
  obtain ⟨k,i,al⟩:=t
  simp only [kd,nm,ar] at ht hargs ⊢
  have HT:=hid ht
  have HA:=hid hargs
  have hlm : al.length ≤ 100000:=by have:=@Un.len_lt k i al;omega
  have HN : Hid (∀ a ∈ al,size a ≤ n):=hid (fun a ha => by have:=@Un.size_lt k i al a ha;omega)
  have HSZ : Hid (size (Ty.mk k i al) ≤ n + 1):=hid hn
  obtain ⟨q,hq,hrq⟩ : ∃ q,step s (.mk k i al) = some q ∧ ((∃ t',q.2 = some t' ∧ r = (q.1,t')) ∨ (q.2 = none ∧ ∃ s2 rs,mapSs step q.1 al = some (s2,rs) ∧ r = (s2,.mk k i rs))):=by
   rw [mapS] at hr
   cases h1 : step s (.mk k i al) with
   | none => simp [h1] at hr
   | some x =>
    obtain ⟨s',o⟩:=x
    cases o with
    | some t' =>
     simp [h1] at hr
     exact ⟨_,rfl,.inl ⟨t',rfl,hr.symm⟩⟩
    | none =>
     cases h2 : mapSs step s' al with
     | none => simp [h1,h2] at hr
     | some y =>
      obtain ⟨s2,rs⟩:=y
      simp [h1,h2] at hr
      exact ⟨_,rfl,.inr ⟨rfl,s2,rs,h2,hr.symm⟩⟩
  have HQ:=hid hq
  have HRQ:=hid hrq
  clear hq hrq hr hs ht hargs hF hn hn1 ih
  go_enter Try.func52,Try.ntmps52
  go_wp2_with fail
  obtain ⟨w1,hw1⟩ : ∃ w1,w1 = (w.alloc (.cells #[.int .i64 k,.int .i64 i,.slice p al.length c] 24)).alloc (.cells #[.int .i64 0,.int .i64 0,.slice none 0 0] 24):=⟨_,rfl⟩
  have HB0 : Hid (Blk w1 w.heap.size 24 #[.int .i64 k,.int .i64 i,.slice p al.length c]):=hid (by rw [hw1];exact (Blk.new _ _ _).alloc _)
  have HB1 : Hid (Blk w1 (w.heap.size + 1) 24 #[.int .i64 0,.int .i64 0,.slice none 0 0]):=hid (by rw [hw1];exact Blk.new_at (by simp))
  have HF0 : Hid (Fr [] w w1):=hid (by rw [hw1];exact ((Fr.refl _ _).alloc _).alloc _)
  rw [← hw1]
  clear hw1
  refine (HF.out _ HSZ.out s _ w1 _ (HK.out.fr HS.out HF0.out) (HT.out.keep0 HF0.out) HQ.out).mono ?_
  rintro e w2 ⟨hf2,hs2,hrest⟩
  have hX1 : ∀ k ∈ X,k < w.heap.size:=fun k hk => by have h1:=HK.out.lt k hk;have h2:=HK.out.size _ _ HS.out;omega
  have HF2:=hid ((HF0.out.nil X).trans hf2)
  have HS2:=hid hs2
  have HB0':=hid (HB0.out.keep hf2 (fun hx => by have:=hX1 _ hx;omega))
  have HB1':=hid (HB1.out.keep hf2 (fun hx => by have:=hX1 _ hx;omega))
  have HX1:=hid hX1
  have HSZ2 : Hid (w.heap.size + 1 < w1.heap.size ∧ w1.heap.size ≤ w2.heap.size):=hid ⟨HB1.out.lt,hf2.size⟩
  clear hf2 hs2 hX1 HB0 HB1
  rcases HRQ.out with ⟨t',hq2,rfl⟩ | ⟨hq2,s2,rs,hms,rfl⟩
  ·rcases hrest with ⟨hq3,_⟩ | ⟨t2,ds,hq3,rfl,hty⟩
   ·rw [hq2] at hq3;cases hq3
   ·obtain rfl : t2 = t':=by rw [hq2] at hq3;cases hq3;rfl
    obtain ⟨p2,c2,rfl,hd2⟩:=hty.shape
    have HTY:=hid hty
    clear hq2 hq3 hty hd2
    have hb1 : w.heap.size + 1 < w2.heap.size:=by have:=HSZ2.out;omega
    have b0 : w2.cell? ⟨w.heap.size + 1,0,none⟩ = some (.int .i64 0):=HB1'.out.cell 0
    have b1 : w2.cell? ⟨w.heap.size + 1,1,none⟩ = some (.int .i64 0):=HB1'.out.cell 1
    have b2 : w2.cell? ⟨w.heap.size + 1,2,none⟩ = some (.slice none 0 0):=HB1'.out.cell 2
    have f0 : w2.frozen? ⟨w.heap.size + 1,0,none⟩ = false:=HB1'.out.frozen 0
    have f1 : w2.frozen? ⟨w.heap.size + 1,1,none⟩ = false:=HB1'.out.frozen 1
    have f2 : w2.frozen? ⟨w.heap.size + 1,2,none⟩ = false:=HB1'.out.frozen 2
    go_wp2_with fail
    generalize hw3 : ((w2.setCell ⟨w.heap.size + 1,0,none⟩ (.int .i64 (kd t2))).setCell ⟨w.heap.size + 1,1,none⟩ (.int .i64 (nm t2))).setCell ⟨w.heap.size + 1,2,none⟩ (.slice p2 (ar t2).length c2) = w3
    have HBr : Blk w3 (w.heap.size + 1) 24 #[.int .i64 (kd t2),.int .i64 (nm t2),.slice p2 (ar t2).length c2]:=by rw [← hw3];exact HB1'.out.set3 _ _ _
    have hf3 : Fr X w w3:=by rw [← hw3];exact HF2.out.set3 (.inr (by omega)) _ _ _
    have hsz3 : w3.heap.size = w2.heap.size:=by rw [← hw3];simp [World.setCell]
    have hty3 : TyV w3 (fun k => w.heap.size ≤ k) t2 [.int .i64 (kd t2),.int .i64 (nm t2),.slice p2 (ar t2).length c2]:=HTY.out.mono fun k h1 h2 => ⟨by have:=HSZ2.out;omega,by omega,by rw [← hw3];exact set3_block _ _ _ (by have:=HSZ2.out;omega)⟩
    have hi3 : I q.1 w3:=HK.out.keep _ _ _ HS2.out (by omega) (fun k hk => by rw [← hw3];exact set3_block _ _ _ (by have:=HK.out.size _ _ HS.out;omega))
    clear hw3 b0 b1 b2 f0 f1 f2
    have b0:=(HBr.alloc (.cells #[.int .i64 (kd t2),.int .i64 (nm t2),.slice p2 (ar t2).length c2] 24)).cell 0
    have b1:=(HBr.alloc (.cells #[.int .i64 (kd t2),.int .i64 (nm t2),.slice p2 (ar t2).length c2] 24)).cell 1
    have b2:=(HBr.alloc (.cells #[.int .i64 (kd t2),.int .i64 (nm t2),.slice p2 (ar t2).length c2] 24)).cell 2
    refine bodyPost_ret (v:=.agg #[.int .i64 (kd t2),.int .i64 (nm t2),.slice p2 (ar t2).length c2]) (by simp [results,Try.results52,go_sem,b0,b1,b2]) rfl ⟨hf3.alloc _,HK.out.fr hi3 ((Fr.refl _ _).alloc _),[.int .i64 (kd t2),.int .i64 (nm t2),.slice p2 (ar t2).length c2],rfl,hty3.keep0 ((Fr.refl _ _).alloc _)⟩
  ·obtain rfl : e = .returned (.tuple #[.agg #[.int .i64 0,.int .i64 0,.slice none 0 0],.bool false]):=by
    rcases hrest with ⟨_,h⟩ | ⟨t2,ds,hq3,_⟩
    ·exact h
    ·rw [hq2] at hq3;cases hq3
   clear hrest
   have hrl:=mapSs_len hms
   have HMS:=hid hms
   have HRL:=hid hrl
   clear hq2 hms hrl
   have hb1 : w.heap.size + 1 < w2.heap.size:=by have:=HSZ2.out;omega
   have hb0 : w.heap.size < w2.heap.size:=by omega
   have b0 : w2.cell? ⟨w.heap.size,0,none⟩ = some (.int .i64 k):=HB0'.out.cell 0
   have b1 : w2.cell? ⟨w.heap.size,1,none⟩ = some (.int .i64 i):=HB0'.out.cell 1
   have b2 : w2.cell? ⟨w.heap.size,2,none⟩ = some (.slice p al.length c):=HB0'.out.cell 2
   go_wp2_with fail
   obtain ⟨w3,hw3⟩ : ∃ w3,w3 = w2.alloc (.cells #[.int .i64 0,.int .i64 0,.slice none 0 0] 24):=⟨_,rfl⟩
   have hf23 : Fr [] w2 w3:=by rw [hw3];exact (Fr.refl _ _).alloc _
   have HF3:=hid (HF2.out.trans (hf23.nil X))
   have HS3:=hid (HK.out.fr HS2.out hf23)
   have HC0:=hid (HB0'.out.keep hf23 (by simp))
   have HC1:=hid (HB1'.out.keep hf23 (by simp))
   have HSZ3 : Hid (w2.heap.size < w3.heap.size):=hid (by rw [hw3];simp)
   rw [← hw3]
   clear hw3 hf23 b0 b1 b2
   refine (grow_ty al.length w3 (by omega)).mono ?_
   rintro e w4 ⟨v0,rfl,hown,hf4⟩
   have HO:=hid (hown (fun k => w3.heap.size ≤ k))
   have HF4:=hid (HF3.out.trans (hf4.nil X))
   have HS4:=hid (HK.out.fr HS3.out hf4)
   have HD0:=hid (HC0.out.keep hf4 (by simp))
   have HD1:=hid (HC1.out.keep hf4 (by simp))
   have HSZ4 : Hid (w3.heap.size ≤ w4.heap.size):=hid hf4.size
   clear hown hf4 HC0 HC1 HB0' HB1'
   have hb1' : w.heap.size + 1 < w4.heap.size:=by have:=HSZ2.out;have:=HSZ3.out;have:=HSZ4.out;omega
   clear hb1 hb0
   have hb0 : w.heap.size < w4.heap.size:=by omega
   have b2 : w4.cell? ⟨w.heap.size,2,none⟩ = some (.slice p al.length c):=HD0.out.cell 2
   go_wp2_with fail
   clear b2
   obtain ⟨i0,hi0,hz0,hz1,hz2⟩:=info_parts info_ty
   have HI0:=hid hi0
   have HZ0:=hid hz0
   have HZ1:=hid hz1
   have HZ2:=hid hz2
   clear hi0 hz0 hz1 hz2
   go_loopw [7,25] (fun v x wr => ∃ (j : Nat) (s' : σ),x = .int .i64 j ∧ j ≤ al.length ∧ Hid (Fr X w wr) ∧ Hid (I s' wr) ∧ Hid (Blk wr w.heap.size 24 #[.int .i64 k,.int .i64 i,.slice p al.length c]) ∧ Hid (Blk wr (w.heap.size + 1) 24 #[.int .i64 0,.int .i64 0,.slice none 0 0]) ∧ Hid (mapSs step s' (al.drop j) = some (s2,rs.drop j)) ∧ Hid (OwnL wr (fun k => w3.heap.size ≤ k) w3.heap.size 24 3 j (rowsQ qTy (rs.take j)) v) ∧ Hid (w4.heap.size ≤ wr.heap.size)) (fun _ x _ => al.length - (RowKit.intOf x).toNat)
   case atStart => exact ⟨0,q.1,rfl,Nat.zero_le _,HF4,HS4,HD0,HD1,HMS,by rw [List.take_zero,rowsQ];exact HO,hid (Nat.le_refl _)⟩
   case round =>
    obtain ⟨j,s',rfl,hj,HFR,HS',HE0,HE1,HMS',HO',HZ⟩:=hrel
    by_cases hlt : j < al.length
    ·have hd2 : decide ((j : Int) < (al.length : Int)) = true:=by simp;omega
     have hd3 : decide (j < al.length) = true:=by simpa using hlt
     obtain ⟨b,o,rfl,hat⟩ : ∃ b o,p = some ⟨b,o,none⟩ ∧ TysAt w N al b o:=by
      rcases HA.out.cases with ⟨rfl,_⟩ | ⟨_,b,o,cap,heq,_,_,hat⟩
      ·simp at hlt
      ·simp only [Value.slice.injEq] at heq
       exact ⟨b,o,heq.1,hat⟩
     obtain ⟨p1,c1,k1,hb,g0,g1,g2⟩:=hat.el HFR.out HK.out.apart (List.getElem?_eq_getElem hlt)
     obtain ⟨s3,bt,m1,m2,m3⟩:=mapSs_step hlt HMS'.out HRL.out
     have K1:=hid k1
     have M1:=hid m1
     have M2:=hid m2
     have M3:=hid m3
     have HMA : Hid (size al[j] ≤ n):=hid (HN.out _ (List.getElem_mem _))
     obtain ⟨a,ha⟩ : ∃ a,a = al[j]:=⟨_,rfl⟩
     rw [← ha] at g0 g1 g2 K1 M1 HMA
     obtain ⟨pv,cv,rfl⟩:=HO'.out.shape
     clear k1 m1 m2 m3 hat ha
     go_wp2_with fail
     have hf0 : Fr [] wr (wr.alloc (.cells #[.int .i64 (kd a),.int .i64 (nm a),.slice p1 (ar a).length c1] 24)):=(Fr.refl _ _).alloc _
     refine (IH.out a HMA.out s' _ _ (s3,bt) (HK.out.fr HS'.out hf0) (K1.out.keep0 hf0) M1.out).mono ?_
     rintro e w5 ⟨hf5,hs5,ds,rfl,hty⟩
     obtain ⟨p5,c5,rfl,_⟩:=hty.shape
     have hX3 : ∀ k ∈ X,k < w3.heap.size ∧ ¬ w3.heap.size ≤ k:=fun k hk => by
      have h1:=HX1.out k hk
      have h2:=HSZ2.out
      have h3:=HSZ3.out
      omega
     have hZ:=HZ.out
     have hZ4:=HSZ4.out
     obtain ⟨r1,r2,r3,r4⟩:=ownl_ready HO'.out ((hf0.nil X).trans hf5) hX3 (by omega) hty (fun k hk => ⟨by simp at hk;omega,by simp at hk;omega⟩) 24
     have R1:=hid r1
     have R2:=hid r2
     have R3:=hid r3
     have HF5:=hid (HFR.out.trans ((hf0.nil X).trans hf5))
     have HS5:=hid hs5
     have hbl : w.heap.size ∉ X ∧ w.heap.size + 1 ∉ X:=⟨fun hx => by have:=HX1.out _ hx;omega,fun hx => by have:=HX1.out _ hx;omega⟩
     have HE0':=hid (HE0.out.keep ((hf0.nil X).trans hf5) hbl.1)
     have HE1':=hid (HE1.out.keep ((hf0.nil X).trans hf5) hbl.2)
     have HZ5 : Hid (wr.heap.size ≤ w5.heap.size):=hid (((hf0.nil X).trans hf5).size)
     clear r1 r2 r3 hf5 hf0 hs5 hty hX3 hZ hZ4 hbl g0 g1 g2
     go_wp2_with (at_builtin;refine wpList_append_ownl _ rfl _ _ 22 rfl (fun k => w3.heap.size ≤ k) w3.heap.size 24 i0 _ 3 40 Try.underlying22 HI0.out HZ0.out HZ1.out HZ2.out rfl (by decide) (.slice pv j cv) j 1 (rowsQ qTy (rs.take j)) (qTy bt) rfl R1.out ⟨w5.heap.size,0,none⟩ 1 [.int .i64 (kd bt),.int .i64 (nm bt),.slice p5 (ar bt).length c5] rfl rfl R2.out R3.out (by omega) (by decide) r4 ?_)
     intro v' w6 hL6 hg6 _
     have hown : ∀ k,(Value.slice pv j cv).ownBlock = some k → w3.heap.size ≤ k:=fun k e => (R1.out.own k e).1
     have hsz : w.heap.size + 1 < w3.heap.size:=by have:=HSZ2.out;have:=HSZ3.out;omega
     have HF6:=hid ((HF5.out.alloc (.cells #[.int .i64 (kd bt),.int .i64 (nm bt),.slice p5 (ar bt).length c5] 24)).grown hg6 (fun k e => .inr (by have:=hown k e;omega)))
     have hg6' : Fr [] w3 w6 → True:=fun _ => trivial
     have hkeep : ∀ k,k < w3.heap.size → w6.heap[k]? = w5.heap[k]?:=fun k hk => by
      have h1:=HZ5.out
      have h2:=HZ.out
      have h3:=HSZ4.out
      rw [hg6.block k (by simp;omega) (fun e => by have:=hown k e.symm;omega),Below.heap_alloc _ _ _ (by omega)]
     have HS6:=hid (HK.out.keep _ _ _ HS5.out (Nat.le_trans (by simp) hg6.size) (fun k hk => hkeep k (by have:=HK.out.size _ _ HS.out;omega)))
     have HE0'' : Hid (Blk w6 w.heap.size 24 #[.int .i64 k,.int .i64 i,.slice (some ⟨b,o,none⟩) al.length c]):=hid ((hkeep _ (by omega)).trans HE0'.out)
     have HE1'' : Hid (Blk w6 (w.heap.size + 1) 24 #[.int .i64 0,.int .i64 0,.slice none 0 0]):=hid ((hkeep _ (by omega)).trans HE1'.out)
     have HZ6 : Hid (w4.heap.size ≤ w6.heap.size):=hid (by have h1:=HZ5.out;have h2:=HZ.out;have h3:=hg6.size;simp at h3;omega)
     have HL6:=hid hL6
     clear hg6' hkeep hown hg6 hL6 hsz
     go_wp2_with fail
     go_roundw
     case rel => exact ⟨j + 1,s3,by go_num,by omega,HF6,HS6,HE0'',HE1'',M2,hid (by rw [M3.out,rowsQ_snoc];exact HL6.out),HZ6⟩
     case measure => simp [RowKit.intOf];omega
    ·have hd2 : decide ((j : Int) < (al.length : Int)) = false:=by simp;omega
     have hd3 : decide (j < al.length) = false:=by simpa using hlt
     obtain rfl : j = al.length:=by omega
     obtain ⟨pv,cv,rfl⟩:=HO'.out.shape
     have hle : w.heap.size + 1 < wr.heap.size:=HE1.out.lt
     have hlz : w.heap.size < wr.heap.size:=HE0.out.lt
     have hrs : rs.take al.length = rs:=List.take_of_length_le (by rw [HRL.out];exact Nat.le_refl _)
     have hms0 : s' = s2:=by
      have h1:=HMS'.out
      rw [List.drop_eq_nil_of_le (Nat.le_refl _),mapSs] at h1
      simp only [Option.some.injEq,Prod.mk.injEq] at h1
      exact h1.1
     subst hms0
     have hsz3 : w.heap.size + 1 < w3.heap.size:=by have:=HSZ2.out;have:=HSZ3.out;omega
     have htv : TysV wr (fun k => w3.heap.size ≤ k) rs (.slice pv al.length cv):=by
      have h1:=HO'.out
      rw [hrs] at h1
      unfold TysV
      rw [HRL.out]
      exact h1.inn (fun k _ h => h) (fun k h => h)
     have HTV:=hid htv
     have HL3:=hid hsz3
     have b0 : wr.cell? ⟨w.heap.size,0,none⟩ = some (.int .i64 k):=HE0.out.cell 0
     have b1 : wr.cell? ⟨w.heap.size,1,none⟩ = some (.int .i64 i):=HE0.out.cell 1
     have c0 : wr.cell? ⟨w.heap.size + 1,0,none⟩ = some (.int .i64 0):=HE1.out.cell 0
     have c1 : wr.cell? ⟨w.heap.size + 1,1,none⟩ = some (.int .i64 0):=HE1.out.cell 1
     have c2 : wr.cell? ⟨w.heap.size + 1,2,none⟩ = some (.slice none 0 0):=HE1.out.cell 2
     have f0 : wr.frozen? ⟨w.heap.size + 1,0,none⟩ = false:=HE1.out.frozen 0
     have f1 : wr.frozen? ⟨w.heap.size + 1,1,none⟩ = false:=HE1.out.frozen 1
     have f2 : wr.frozen? ⟨w.heap.size + 1,2,none⟩ = false:=HE1.out.frozen 2
     clear hrs htv hsz3
     go_wp2_with fail
     generalize hw7 : ((wr.setCell ⟨w.heap.size + 1,0,none⟩ (.int .i64 k)).setCell ⟨w.heap.size + 1,1,none⟩ (.int .i64 i)).setCell ⟨w.heap.size + 1,2,none⟩ (.slice pv al.length cv) = w7
     have HBr : Blk w7 (w.heap.size + 1) 24 #[.int .i64 k,.int .i64 i,.slice pv al.length cv]:=by rw [← hw7];exact HE1.out.set3 _ _ _
     have hf7 : Fr X w w7:=by rw [← hw7];exact HFR.out.set3 (.inr (by omega)) _ _ _
     have hsz7 : w7.heap.size = wr.heap.size:=by rw [← hw7];simp [World.setCell]
     have hty7 : TysV w7 (fun k => w.heap.size ≤ k) rs (.slice pv al.length cv):=HTV.out.mono fun k h1 h2 => ⟨by have:=HL3.out;omega,by omega,by rw [← hw7];exact set3_block _ _ _ (by have:=HL3.out;omega)⟩
     have hi7 : I s' w7:=HK.out.keep _ _ _ HS'.out (by omega) (fun k hk => by rw [← hw7];exact set3_block _ _ _ (by have:=HK.out.size _ _ HS.out;omega))
     have d0:=HBr.cell 0
     have d1:=HBr.cell 1
     have d2:=HBr.cell 2
     refine bodyPost_ret (v:=.agg #[.int .i64 k,.int .i64 i,.slice pv al.length cv]) (by simp [results,Try.results52,go_sem,d0,d1,d2]) rfl ⟨hf7,hi7,[.int .i64 k,.int .i64 i,.slice pv al.length cv],rfl,TyV.mk hty7⟩
open Un (kd nm ar size sizes mapT subst rep)
theorem mapS_pure {σ : Type} (f : Ty → Option Ty) (s : σ) : ∀ t,mapS (fun s t => some (s,f t)) s t = some (s,mapT f t):=by
 refine Un.Ty.ind fun k i al ih => ?_
 rw [mapS,Un.mapT_mk]
 cases h : f (.mk k i al) with
 | some r => simp
 | none =>
  simp only
  have key : ∀ l : List Ty,(∀ a ∈ l,mapS (fun s t => some (s,f t)) s a = some (s,mapT f a)) → mapSs (fun s t => some (s,f t)) s l = some (s,l.map (mapT f)):=by
   intro l
   induction l with
   | nil => intro _;rw [mapSs];rfl
   | cons a r ihr =>
    intro h
    rw [mapSs,h a (by simp)]
    simp only
    rw [ihr (fun b hb => h b (by simp [hb]))]
    rfl
  rw [key al ih]
theorem kept_unit (N : Nat → Prop) : Kept 0 [] N (fun (_ : Unit) (_ : World) => True):=⟨fun _ _ _ _ _ _ => trivial,fun _ _ _ => Nat.zero_le _,(by simp),(by simp)⟩
def NewP (t : Ty) (w : World) (e : Ending) (w' : World) : Prop:=Fr [] w w' ∧ ∃ ds,e = .returned (.agg ds.toArray) ∧ TyV w' (fun k => w.heap.size ≤ k) t ds
theorem MadeP.new {σ : Type} {I : σ → World → Prop} {r : σ × Ty} {w w' : World} {e : Ending} (h : MadeP [] I r w e w') : NewP r.2 w e w':=⟨h.1,h.2.2⟩
theorem enters_copied1 : Enters 74:=fun _ _ => by kernel_rfl
theorem copied1_any (a : Ty) (cs : List Value) (w : World) (N : Nat → Prop) (h : TyV w N a cs) : Calls Try.prog 74 #[.agg cs.toArray] w (StepP [] (fun (_ : Unit) (_ : World) => True) ((),none) w):=by
 obtain ⟨p,c,rfl,_⟩:=h.shape
 clear h
 go_enter Try.func74,Try.ntmps74
 go_wp2_with fail
 refine bodyPost_ret (v:=.tuple #[.agg #[.int .i64 0,.int .i64 0,.slice none 0 0],.bool false]) (by simp [results,Try.results74,go_sem]) rfl ?_
 exact ⟨((Fr.refl _ _).alloc _).alloc _,trivial,.inl ⟨rfl,rfl⟩⟩
theorem NewP.stored {t : Ty} {w w1 w2 : World} {b : Nat} {x y z : Value} {p : Option Addr} {c : Nat} (hb : w.heap.size ≤ b) (hbl : b < w1.heap.size) (hB : Blk w2 b 24 #[x,y,z]) (hf : Fr [] w w2) (ht : TyV w2 (fun k => w1.heap.size ≤ k) t [.int .i64 (kd t),.int .i64 (nm t),.slice p (ar t).length c]) :
  Blk (((w2.setCell ⟨b,0,none⟩ (.int .i64 (kd t))).setCell ⟨b,1,none⟩ (.int .i64 (nm t))).setCell ⟨b,2,none⟩ (.slice p (ar t).length c)) b 24 #[.int .i64 (kd t),.int .i64 (nm t),.slice p (ar t).length c] ∧
  NewP t w (.returned (.agg #[.int .i64 (kd t),.int .i64 (nm t),.slice p (ar t).length c])) (((w2.setCell ⟨b,0,none⟩ (.int .i64 (kd t))).setCell ⟨b,1,none⟩ (.int .i64 (nm t))).setCell ⟨b,2,none⟩ (.slice p (ar t).length c)):=by
 refine ⟨hB.set3 _ _ _,hf.set3 (.inr hb) _ _ _,[.int .i64 (kd t),.int .i64 (nm t),.slice p (ar t).length c],rfl,InN.mono (fun k h1 h2 => ⟨by omega,by simpa [World.setCell] using h2,set3_block _ _ _ (by omega)⟩) ht⟩
set_option maxHeartbeats 1600000 in
theorem copied_any (t : Ty) (cs : List Value) (w : World) (N : Nat → Prop) (h : TyV w N t cs) (hs : size t ≤ 100000) : Calls Try.prog 50 #[.agg cs.toArray] w (NewP t w):=by
 have HM:=hid (fun (w : World) (cs : List Value) (h : TyV w N t cs) => mapped_any 74 #[] 0 [] N (fun (_ : Unit) (_ : World) => True) (fun s _ => some (s,none)) enters_copied1 (kept_unit N) (size t) t (Nat.le_refl _) hs
  (fun a _ s cs w r _ ht hr => by cases hr;exact copied1_any a cs w N ht) () cs w ((),t) trivial h (by rw [mapS_pure,Un.mapT_none]))
 obtain ⟨p,c,rfl,_⟩:=h.shape
 have HT:=hid h
 clear h
 go_enter Try.func50,Try.ntmps50
 go_wp2_with fail
 obtain ⟨w1,hw1⟩ : ∃ w1,w1 = (w.alloc (.cells #[.int .i64 (kd t),.int .i64 (nm t),.slice p (ar t).length c] 24)).alloc (.cells #[.int .i64 0,.int .i64 0,.slice none 0 0] 24):=⟨_,rfl⟩
 have HB1 : Hid (Blk w1 (w.heap.size + 1) 24 #[.int .i64 0,.int .i64 0,.slice none 0 0]):=hid (by rw [hw1];exact Blk.new_at (by simp))
 have HF0 : Hid (Fr [] w w1):=hid (by rw [hw1];exact ((Fr.refl _ _).alloc _).alloc _)
 rw [← hw1]
 clear hw1
 refine (HM.out w1 _ (HT.out.keep0 HF0.out)).mono ?_
 intro e w2 hp
 obtain ⟨hf2,ds,rfl,hty⟩:=hp.new
 obtain ⟨p2,c2,rfl,_⟩:=hty.shape
 have HBs:=HB1.out.keep hf2 (by simp)
 have hbl : w.heap.size + 1 < w1.heap.size:=HB1.out.lt
 obtain ⟨q1,q2⟩:=NewP.stored (b:=w.heap.size + 1) (by omega) hbl HBs (HF0.out.trans hf2) hty
 have Q2:=hid q2
 have c0 : w2.cell? ⟨w.heap.size + 1,0,none⟩ = some (.int .i64 0):=HBs.cell 0
 have c1 : w2.cell? ⟨w.heap.size + 1,1,none⟩ = some (.int .i64 0):=HBs.cell 1
 have c2' : w2.cell? ⟨w.heap.size + 1,2,none⟩ = some (.slice none 0 0):=HBs.cell 2
 have f0 : w2.frozen? ⟨w.heap.size + 1,0,none⟩ = false:=HBs.frozen 0
 have f1 : w2.frozen? ⟨w.heap.size + 1,1,none⟩ = false:=HBs.frozen 1
 have f2 : w2.frozen? ⟨w.heap.size + 1,2,none⟩ = false:=HBs.frozen 2
 have hle : w.heap.size + 1 < w2.heap.size:=HBs.lt
 have d0:=q1.cell 0
 have d1:=q1.cell 1
 have d2:=q1.cell 2
 have D0:=hid d0
 have D1:=hid d1
 have D2:=hid d2
 clear q1 q2 d0 d1 d2 HBs hp hf2 hty
 go_wp2_with fail
 have d0:=D0.out
 have d1:=D1.out
 have d2:=D2.out
 exact bodyPost_ret (v:=.agg #[.int .i64 (kd t),.int .i64 (nm t),.slice p2 (ar t).length c2]) (by simp [results,Try.results50,go_sem,d0,d1,d2]) rfl Q2.out
end Go.Proofs.Ytcdlnhfgehhkcaa
