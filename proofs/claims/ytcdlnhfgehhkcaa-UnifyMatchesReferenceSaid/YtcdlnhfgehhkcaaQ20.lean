/- part of the proof -/
import Derived.Test.YtcdlnhfgehhkcaaQ19
import Derived.Test.YtcdlnhfgehhkcaaQ11
import Derived.Deep.DeepCutAuto
import Derived.Test.YtcdlnhfgehhkcaaQ15
set_option linter.unusedVariables false
set_option linter.unusedSimpArgs false
set_option linter.unusedSectionVars false
namespace Go.Proofs.Ytcdlnhfgehhkcaa
open Go.RowKit Go.Lib
open Un (kd nm ar size sizes unsolved)
namespace Un
def endT (E : List Ty) : Nat → Ty → Option Ty
 | 0,_ => none
 | f + 1,t => if kd t = 9 then (if 0 ≤ nm t then match E[(nm t).toNat]? with
  | none => none
  | some x => if unsolved x = true then some t else endT E f x
  else none) else some t
theorem endT_cases {E : List Ty} {f : Nat} {t y : Ty} (h : endT E f t = some y) : ∃ g,f = g + 1 ∧ ((kd t ≠ 9 ∧ y = t) ∨ ∃ (n : Nat) (x : Ty),kd t = 9 ∧ nm t = n ∧ E[n]? = some x ∧ ((unsolved x = true ∧ y = t) ∨ (unsolved x = false ∧ endT E g x = some y))):=by
 cases f with
 | zero => simp [endT] at h
 | succ g =>
  refine ⟨g,rfl,?_⟩
  rw [endT] at h
  by_cases h9 : kd t = 9
  ·rw [if_pos h9] at h
   by_cases h0 : 0 ≤ nm t
   ·rw [if_pos h0] at h
    cases hx : E[(nm t).toNat]? with
    | none => rw [hx] at h;cases h
    | some x =>
     rw [hx] at h
     simp only at h
     refine .inr ⟨(nm t).toNat,x,h9,by omega,hx,?_⟩
     by_cases hu : unsolved x = true
     ·rw [if_pos hu] at h
      exact .inl ⟨hu,(Option.some.inj h).symm⟩
     ·rw [if_neg hu] at h
      exact .inr ⟨by simpa using hu,h⟩
   ·rw [if_neg h0] at h;cases h
  ·rw [if_neg h9] at h
   exact .inl ⟨h9,(Option.some.inj h).symm⟩
theorem endT_no {E : List Ty} {g : Nat} {t : Ty} (h : kd t ≠ 9) : endT E (g + 1) t = some t:=by rw [endT,if_neg h]
theorem endT_uns {E : List Ty} {g n : Nat} {t x : Ty} (h9 : kd t = 9) (hn : nm t = n) (hx : E[n]? = some x) (hu : unsolved x = true) : endT E (g + 1) t = some t:=by
 rw [endT,if_pos h9,if_pos (by omega),hn,Int.toNat_natCast,hx]
 simp only
 rw [if_pos hu]
theorem endT_sol {E : List Ty} {g n : Nat} {t x : Ty} (h9 : kd t = 9) (hn : nm t = n) (hx : E[n]? = some x) (hu : unsolved x = false) : endT E (g + 1) t = endT E g x:=by
 rw [endT,if_pos h9,if_pos (by omega),hn,Int.toNat_natCast,hx]
 simp only
 rw [if_neg (by simp [hu])]
theorem endT_mono {E : List Ty} : ∀ {f g : Nat} {t y : Ty},endT E f t = some y → f ≤ g → endT E g t = some y
 | f,g,t,y,h,hg => by
  obtain ⟨f1,rfl,hc⟩:=endT_cases h
  obtain ⟨g1,rfl⟩ : ∃ g1,g = g1 + 1:=⟨g - 1,by omega⟩
  rcases hc with ⟨h1,rfl⟩ | ⟨n,x,h1,h2,h3,⟨h4,rfl⟩ | ⟨h4,h5⟩⟩
  ·exact endT_no h1
  ·exact endT_uns h1 h2 h3 h4
  ·rw [endT_sol h1 h2 h3 h4];exact endT_mono h5 (by omega)
termination_by f => f
structure Shr (E E' : List Ty) : Prop where
 len : E'.length = E.length
 uns : ∀ (i : Nat) (x x' : Ty),E[i]? = some x → E'[i]? = some x' → unsolved x' = unsolved x
 end' : ∀ (f : Nat) (t y : Ty),endT E f t = some y → endT E' f t = some y
theorem Shr.refl (E : List Ty) : Shr E E:=⟨rfl,fun i x x' h h' => by rw [h] at h';cases h';rfl,fun _ _ _ h => h⟩
theorem Shr.trans {A B C : List Ty} (h : Shr A B) (k : Shr B C) : Shr A C:=by
 refine ⟨k.len.trans h.len,fun i x x' hx hx' => ?_,fun f t y hy => k.end' f t y (h.end' f t y hy)⟩
 have hl : i < B.length:=by have:=(List.getElem?_eq_some_iff.1 hx).1;have:=h.len;omega
 have hb:=List.getElem?_eq_getElem hl
 rw [k.uns i _ x' hb hx',h.uns i x _ hx hb]
theorem Shr.set {E : List Ty} {n m : Nat} {x z : Ty} (hx : E[n]? = some x) (hu : unsolved x = false) (h9 : kd x = 9) (hm : nm x = m) (hz : E[m]? = some z) (huz : unsolved z = false) : Shr E (E.set n z):=by
 have hn : n < E.length:=(List.getElem?_eq_some_iff.1 hx).1
 have hget : ∀ (i : Nat) (u : Ty),E[i]? = some u → i ≠ n → (E.set n z)[i]? = some u:=fun i u h hi => by rw [List.getElem?_set_ne (by omega)];exact h
 have hself : (E.set n z)[n]? = some z:=List.getElem?_set_self hn
 refine ⟨by simp,fun i u u' h h' => ?_,?_⟩
 ·by_cases e : i = n
  ·subst e
   rw [hself] at h'
   rw [hx] at h
   cases h
   cases h'
   rw [hu,huz]
  ·rw [hget i u h e] at h'
   cases h';rfl
 ·intro f
  induction f using Nat.strongRecOn with
  | ind f ih =>
   intro t y hy
   obtain ⟨f1,rfl,hc⟩:=endT_cases hy
   rcases hc with ⟨h1,rfl⟩ | ⟨k,u,h1,h2,h3,⟨h4,rfl⟩ | ⟨h4,h5⟩⟩
   ·exact endT_no h1
   ·have e : k ≠ n:=fun e => by
     subst e
     rw [hx] at h3
     cases h3
     rw [hu] at h4
     cases h4
    exact endT_uns h1 h2 (hget k u h3 e) h4
   ·by_cases e : k = n
    ·subst e
     rw [hx] at h3
     cases h3
     rw [endT_sol h1 h2 hself huz]
     obtain ⟨f2,rfl,hc2⟩:=endT_cases h5
     rcases hc2 with ⟨h6,_⟩ | ⟨k2,u2,h6,h7,h8,hc3⟩
     ·exact absurd h9 h6
     ·obtain rfl : k2 = m:=by omega
      rw [hz] at h8
      cases h8
      rcases hc3 with ⟨h10,_⟩ | ⟨_,h10⟩
      ·rw [huz] at h10;cases h10
      ·exact endT_mono (ih f2 (by omega) _ y h10) (by omega)
    ·rw [endT_sol h1 h2 (hget k u h3 e) h4]
     exact ih f1 (by omega) _ y h5
end Un
def ElsA (w0 w : World) (K : Nat → Prop) (e cap : Nat) (l : List Ty) : Prop:=l.length ≤ cap ∧ cap ≤ maxLen ∧ ∃ cs : Array Value,Blk w e 24 cs ∧ InN w0 K (rowsQ qTy l) (cs.toList.take (l.length * 3))
theorem ElsA.lt {w0 w : World} {K : Nat → Prop} {e cap : Nat} {l : List Ty} (h : ElsA w0 w K e cap l) : e < w.heap.size:=by obtain ⟨_,_,_,h,_⟩:=h;exact h.lt
theorem ElsA.at {w0 w w' : World} {K : Nat → Prop} {e cap : Nat} {l : List Ty} (h : ElsA w0 w K e cap l) (he : w'.heap[e]? = w.heap[e]?) : ElsA w0 w' K e cap l:=by
 obtain ⟨h1,h2,cs,h3,h4⟩:=h
 exact ⟨h1,h2,cs,he.trans h3,h4⟩
theorem ElsA.keep {w0 w w' : World} {K : Nat → Prop} {e cap : Nat} {l : List Ty} (h : ElsA w0 w K e cap l) {X : List Nat} (hf : Fr X w w') (hX : e ∉ X) : ElsA w0 w' K e cap l:=h.at (hf.block e h.lt hX)
theorem ElsA.keep0 {w0 w w' : World} {K : Nat → Prop} {e cap : Nat} {l : List Ty} (h : ElsA w0 w K e cap l) (hf : Fr [] w w') : ElsA w0 w' K e cap l:=h.keep hf (by simp)
theorem ElsA.base {w0 w1 w : World} {K K' : Nat → Prop} {e cap : Nat} {l : List Ty} (h : ElsA w0 w K e cap l) (hK : ∀ k,K k → k < w0.heap.size → K' k ∧ k < w1.heap.size ∧ w1.heap[k]? = w0.heap[k]?) : ElsA w1 w K' e cap l:=by
 obtain ⟨h1,h2,cs,h3,h4⟩:=h
 exact ⟨h1,h2,cs,h3,h4.mono hK⟩
theorem ElsA.el {w0 w : World} {K : Nat → Prop} {e cap : Nat} {l : List Ty} (h : ElsA w0 w K e cap l) {i : Nat} {t : Ty} (ht : l[i]? = some t) :
  ∃ p c,TyV w0 K t [.int .i64 (kd t),.int .i64 (nm t),.slice p (ar t).length c] ∧ w.cell? ⟨e,i * 3,none⟩ = some (.int .i64 (kd t)) ∧ w.cell? ⟨e,i * 3 + 1,none⟩ = some (.int .i64 (nm t)) ∧ w.cell? ⟨e,i * 3 + 2,none⟩ = some (.slice p (ar t).length c) ∧ ∀ o,w.frozen? ⟨e,o,none⟩ = false:=by
 obtain ⟨_,_,cs,h1,h2⟩:=h
 have hi:=(List.getElem?_eq_some_iff.1 ht).1
 obtain ⟨ds,k1,k2,k3⟩:=InN.get (f:=qTy) (s:=3) ln_qTy l _ i t h2 ht
 obtain ⟨p,c,rfl,_⟩:=TyV.shape k1
 have hcl : ∀ j,j < 3 → w.cell? ⟨e,i * 3 + j,none⟩ = [Value.int .i64 (kd t),.int .i64 (nm t),.slice p (ar t).length c][j]?:=fun j hj => by
  rw [h1.cell,← k3 j hj,List.getElem?_take,if_pos (by omega)];simp
 exact ⟨p,c,k1,hcl 0 (by omega),hcl 1 (by omega),hcl 2 (by omega),h1.frozen⟩
theorem ElsA.set {w0 w : World} {K : Nat → Prop} {e cap : Nat} {l : List Ty} (h : ElsA w0 w K e cap l) {i : Nat} (hi : i < l.length) {t : Ty} {d0 d1 d2 : Value} (ht : TyV w0 K t [d0,d1,d2]) :
  ElsA w0 (((w.setCell ⟨e,i * 3,none⟩ d0).setCell ⟨e,i * 3 + 1,none⟩ d1).setCell ⟨e,i * 3 + 2,none⟩ d2) K e cap (l.set i t):=by
 obtain ⟨h1,h2,cs,h3,h4⟩:=h
 refine ⟨by simpa using h1,h2,((cs.setIfInBounds (i * 3) d0).setIfInBounds (i * 3 + 1) d1).setIfInBounds (i * 3 + 2) d2,((h3.set _ _).set _ _).set _ _,?_⟩
 rw [Array.toList_setIfInBounds,Array.toList_setIfInBounds,Array.toList_setIfInBounds,List.length_set,List.take_set,List.take_set,List.take_set]
 exact inn_setTy ht h4 hi
theorem OwnL.els {w : World} {N : Nat → Prop} {B : Nat} {l : List Ty} {v : Value} (h : OwnL w N B 24 3 l.length (rowsQ qTy l) v) (h0 : 0 < l.length) : ∃ e cap,v = .slice (some ⟨e,0,none⟩) l.length cap ∧ B ≤ e ∧ ElsA w w (fun k => N k ∧ k ≠ e) e cap l:=by
 obtain ⟨xs,h1,hq⟩:=h
 rcases h1.2 with ⟨_,h2⟩ | ⟨g,cap,cur,rfl,hB,hg,c1,c2,c3,c4⟩
 ·omega
 ·refine ⟨g,cap,rfl,hB,c1,c2,cur,hg,?_⟩
  rw [c4]
  exact InN.weak hq (fun k _ hk => ⟨hk.1,fun e => hk.2 (by rw [e];rfl)⟩)
end Go.Proofs.Ytcdlnhfgehhkcaa
namespace Go.Proofs.Ytcdlnhfgehhkcaa
open Go.RowKit Go.Lib
open Un (kd nm ar size sizes unsolved endT Shr)
def EndP (K : Nat → Prop) (e cap : Nat) (E : List Ty) (y : Ty) (w : World) (en : Ending) (w' : World) : Prop:=
 Fr [e] w w' ∧ ∃ (ds : List Value) (E2 : List Ty),en = .returned (.agg ds.toArray) ∧ TyV w (fun k => k ≠ e) y ds ∧ Shr E E2 ∧ ElsA w w' K e cap E2
set_option maxRecDepth 100000 in
set_option maxHeartbeats 3200000 in
theorem endofG_any (E : List Ty) (K : Nat → Prop) (e cap : Nat) (a y : Ty) (f : Nat) (cs : List Value) (w : World) (hv : ElsA w w K e cap E) (h : TyV w (fun k => k ≠ e) a cs) (hK : ∀ k,k < w.heap.size → K k → k ≠ e) (hy : endT E f a = some y) :
  Calls Try.prog 80 #[.slice (some ⟨e,0,none⟩) E.length cap,.agg cs.toArray] w (EndP K e cap E y w):=by
 obtain ⟨p,c,rfl,_⟩:=h.shape
 have HK:=hid hK
 have HV:=hid hv
 have HT:=hid h
 have HY:=hid hy
 have hel:=hv.lt
 have HEL:=hid hel
 obtain ⟨L,hL⟩ : ∃ L,L = E.length:=⟨_,rfl⟩
 have HL:=hid hL
 have hcap : L ≤ cap ∧ cap ≤ maxLen:=by rw [hL];exact ⟨hv.1,hv.2.1⟩
 unfold maxLen at hcap
 obtain ⟨hcap1,hcap2⟩:=hcap
 rw [← hL]
 obtain ⟨w1,hw1⟩ : ∃ w1,w1 = (w.alloc (.cells #[.int .i64 (kd a),.int .i64 (nm a),.slice p (ar a).length c] 24)).alloc (.cells #[.int .i64 0,.int .i64 0,.slice none 0 0] 24):=⟨_,rfl⟩
 have HF1 : Hid (Fr [] w w1):=hid (by rw [hw1];exact ((Fr.refl _ _).alloc _).alloc _)
 have HB0 : Hid (Blk w1 w.heap.size 24 #[.int .i64 (kd a),.int .i64 (nm a),.slice p (ar a).length c]):=hid (by rw [hw1];exact (Blk.new _ _ _).alloc _)
 have HB1 : Hid (Blk w1 (w.heap.size + 1) 24 #[.int .i64 0,.int .i64 0,.slice none 0 0]):=hid (by rw [hw1];exact Blk.new_at (by simp))
 have HV1 : Hid (ElsA w w1 K e cap E):=hid (hv.keep0 HF1.out)
 clear hv h hy hK hL hel
 go_enter Try.func80,Try.ntmps80
 go_wp2_with fail
 rw [← hw1]
 clear hw1
 go_loopg [5] f (fun gg _ wr => ∃ (E' : List Ty) (t : Ty) (p' : Option Addr) (c' : Nat),Hid (endT E' gg t = some y) ∧ Hid (Shr E E') ∧ Hid (ElsA w wr K e cap E') ∧ Hid (Blk wr w.heap.size 24 #[.int .i64 (kd t),.int .i64 (nm t),.slice p' (ar t).length c']) ∧ Hid (TyV w (fun k => k ≠ e) t [.int .i64 (kd t),.int .i64 (nm t),.slice p' (ar t).length c']) ∧ Hid (Blk wr (w.heap.size + 1) 24 #[.int .i64 0,.int .i64 0,.slice none 0 0]) ∧ Hid (Fr [e] w wr))
 case atStart => exact ⟨E,a,p,c,HY,hid (Shr.refl E),HV1,HB0,HT,HB1,hid (HF1.out.nil [e])⟩
 case round =>
  obtain ⟨E',t,p',c',HQ,HSH,HE,HBT,HTT,HBR,HFR⟩:=hrel
  obtain ⟨g1,hg,hcase⟩:=Un.endT_cases HQ.out
  subst hg
  have HLE : Hid (E'.length = L):=hid (HSH.out.len.trans HL.out.symm)
  have s0 : wr.cell? ⟨w.heap.size,0,none⟩ = some (.int .i64 (kd t)):=HBT.out.cell 0
  have s1 : wr.cell? ⟨w.heap.size,1,none⟩ = some (.int .i64 (nm t)):=HBT.out.cell 1
  have s2 : wr.cell? ⟨w.heap.size,2,none⟩ = some (.slice p' (ar t).length c'):=HBT.out.cell 2
  have hz0 : w.heap.size < wr.heap.size:=HBT.out.lt
  have hz1 : w.heap.size + 1 < wr.heap.size:=HBR.out.lt
  have HEX : Hid (∀ wx,Fr [] wr wx → y = t → EndP K e cap E y w (.returned (.agg #[.int .i64 (kd t),.int .i64 (nm t),.slice p' (ar t).length c'])) (((wx.setCell ⟨w.heap.size + 1,0,none⟩ (.int .i64 (kd t))).setCell ⟨w.heap.size + 1,1,none⟩ (.int .i64 (nm t))).setCell ⟨w.heap.size + 1,2,none⟩ (.slice p' (ar t).length c'))):=hid (fun wx hf hyt => by
   subst hyt
   have hf2:=(HFR.out.trans (hf.nil [e])).set3 (b:=w.heap.size + 1) (.inr (by omega)) (.int .i64 (kd y)) (.int .i64 (nm y)) (.slice p' (ar y).length c')
   refine ⟨hf2,_,E',rfl,HTT.out,HSH.out,?_⟩
   have hne : e ≠ w.heap.size + 1:=by have:=HEL.out;omega
   exact (HE.out.keep0 hf).at (set3_block _ _ _ hne))
  rcases hcase with ⟨h9,hyt⟩ | ⟨n,x,h9,hn,hx,hcase2⟩
  ·have hk : (kd t == 9) = false:=by simpa using h9
   have HYT:=hid hyt
   have r0 : wr.cell? ⟨w.heap.size + 1,0,none⟩ = some (.int .i64 0):=HBR.out.cell 0
   have r1 : wr.cell? ⟨w.heap.size + 1,1,none⟩ = some (.int .i64 0):=HBR.out.cell 1
   have r2 : wr.cell? ⟨w.heap.size + 1,2,none⟩ = some (.slice none 0 0):=HBR.out.cell 2
   have t0:=HBR.out.frozen 0
   have t1:=HBR.out.frozen 1
   have t2:=HBR.out.frozen 2
   clear hyt h9
   go_wp2_with fail
   have hbx:=HBR.out.set3 (.int .i64 (kd t)) (.int .i64 (nm t)) (.slice p' (ar t).length c')
   have d0:=hbx.cell 0
   have d1:=hbx.cell 1
   have d2:=hbx.cell 2
   exact bodyPost_ret (v:=.agg #[.int .i64 (kd t),.int .i64 (nm t),.slice p' (ar t).length c']) (by simp [results,Try.results80,go_sem,d0,d1,d2]) rfl (HEX.out _ (Fr.refl _ _) HYT.out)
  ·have hnl : n < L:=by rw [← HLE.out];exact (List.getElem?_eq_some_iff.1 hx).1
   have e4 : decide (n < L) = true:=by simpa using hnl
   have e5 : decide ((n : Int) < (L : Int)) = true:=by simp;omega
   have HCASE:=hid hcase2
   have HX:=hid hx
   have H9:=hid h9
   have HN:=hid hn
   rw [h9] at s0
   rw [hn] at s1
   rw [h9,hn] at HBT HTT HEX
   obtain ⟨px,cx,kx,x0,x1,x2,xf⟩:=HE.out.el hx
   have KX:=hid kx
   have HNE : Hid (∀ k ∈ [e],¬ (fun k => k < w.heap.size ∧ K k) k):=hid (fun k hk h => by
    rw [List.mem_singleton] at hk
    exact HK.out k h.1 h.2 hk)
   have hel : e < wr.heap.size:=HE.out.lt
   clear hcase2 h9 hn hx kx xf
   go_wp2_with fail
   refine (isunsolved_any x _ wr _ (TyV.keep (TyV.weak (N':=fun k => k < w.heap.size ∧ K k) KX.out (fun k h1 h2 => ⟨h1,h2⟩)) HFR.out HNE.out)).mono ?_
   rintro en w2 ⟨rfl,hf2⟩
   have HF2:=hid hf2
   have HF2':=hid (HFR.out.trans (hf2.nil [e]))
   have HE2:=hid (HE.out.keep0 hf2)
   have HBT2:=hid (HBT.out.keep hf2 (by simp))
   have HBR2:=hid (HBR.out.keep hf2 (by simp))
   clear hf2 s0 s1 s2 hz0 hz1 x0 x1 x2 hel
   have s0 : w2.cell? ⟨w.heap.size,0,none⟩ = some (.int .i64 9):=HBT2.out.cell 0
   have s1 : w2.cell? ⟨w.heap.size,1,none⟩ = some (.int .i64 n):=HBT2.out.cell 1
   have s2 : w2.cell? ⟨w.heap.size,2,none⟩ = some (.slice p' (ar t).length c'):=HBT2.out.cell 2
   have f0:=HBT2.out.frozen 0
   have f1:=HBT2.out.frozen 1
   have f2:=HBT2.out.frozen 2
   have hz0 : w.heap.size < w2.heap.size:=HBT2.out.lt
   have hz1 : w.heap.size + 1 < w2.heap.size:=HBR2.out.lt
   rcases HCASE.out with ⟨hu,hyt⟩ | ⟨hu,hyx⟩
   ·rw [hu]
    have HYT:=hid hyt
    have r0 : w2.cell? ⟨w.heap.size + 1,0,none⟩ = some (.int .i64 0):=HBR2.out.cell 0
    have r1 : w2.cell? ⟨w.heap.size + 1,1,none⟩ = some (.int .i64 0):=HBR2.out.cell 1
    have r2 : w2.cell? ⟨w.heap.size + 1,2,none⟩ = some (.slice none 0 0):=HBR2.out.cell 2
    have t0:=HBR2.out.frozen 0
    have t1:=HBR2.out.frozen 1
    have t2:=HBR2.out.frozen 2
    clear hyt hu f0 f1 f2
    go_wp2_with fail
    have hbx:=HBR2.out.set3 (.int .i64 9) (.int .i64 n) (.slice p' (ar t).length c')
    have d0:=hbx.cell 0
    have d1:=hbx.cell 1
    have d2:=hbx.cell 2
    exact bodyPost_ret (v:=.agg #[.int .i64 9,.int .i64 n,.slice p' (ar t).length c']) (by simp [results,Try.results80,go_sem,d0,d1,d2]) rfl (HEX.out _ HF2.out HYT.out)
   ·rw [hu]
    have HU:=hid hu
    have HYX:=hid hyx
    obtain ⟨px2,cx2,kx2,x0,x1,x2,_⟩:=HE2.out.el HX.out
    have hel : e < w2.heap.size:=HE2.out.lt
    clear hyx hu
    have HKX2 : Hid (∀ wx,Fr [e] w wx → TyV wx (fun k => k < w.heap.size ∧ K k) x [.int .i64 (kd x),.int .i64 (nm x),.slice px2 (ar x).length cx2]):=hid (fun wx hf => TyV.keep (TyV.weak (N':=fun k => k < w.heap.size ∧ K k) kx2 (fun k h1 h2 => ⟨h1,h2⟩)) hf HNE.out)
    have HKXe : Hid (TyV w (fun k => k ≠ e) x [.int .i64 (kd x),.int .i64 (nm x),.slice px2 (ar x).length cx2]):=hid (TyV.weak kx2 (fun k h1 h2 => HK.out k h1 h2))
    have HZ2 : Hid (e ≠ w.heap.size ∧ e ≠ w.heap.size + 1):=hid (by have:=HEL.out;omega)
    clear kx2
    by_cases hk9 : kd x = 9
    ·obtain ⟨g2,hg2,hc2⟩:=Un.endT_cases HYX.out
     subst hg2
     obtain ⟨m,z,hm,hz,hzc⟩ : ∃ (m : Nat) (z : Ty),nm x = m ∧ E'[m]? = some z ∧ ((unsolved z = true ∧ y = x) ∨ (unsolved z = false ∧ endT E' g2 z = some y)):=by
      rcases hc2 with ⟨h1,_⟩ | ⟨m,z,h1,h2,h3,h4⟩
      ·exact absurd hk9 h1
      ·exact ⟨m,z,h2,h3,h4⟩
     have hml : m < L:=by rw [← HLE.out];exact (List.getElem?_eq_some_iff.1 hz).1
     have e6 : decide (m < L) = true:=by simpa using hml
     have e7 : decide ((m : Int) < (L : Int)) = true:=by simp;omega
     have HZC:=hid hzc
     have HZ:=hid hz
     have HK9:=hid hk9
     have HM:=hid hm
     rw [hk9] at x0
     rw [hm] at x1
     rw [hk9,hm] at HKX2 HKXe
     obtain ⟨pz,cz,kz,z0,z1,z2,_⟩:=HE2.out.el hz
     have HKZ2 : Hid (∀ wx,Fr [e] w wx → TyV wx (fun k => k < w.heap.size ∧ K k) z [.int .i64 (kd z),.int .i64 (nm z),.slice pz (ar z).length cz]):=hid (fun wx hf => TyV.keep (TyV.weak (N':=fun k => k < w.heap.size ∧ K k) kz (fun k h1 h2 => ⟨h1,h2⟩)) hf HNE.out)
     have HKZe : Hid (TyV w (fun k => k ≠ e) z [.int .i64 (kd z),.int .i64 (nm z),.slice pz (ar z).length cz]):=hid (TyV.weak kz (fun k h1 h2 => HK.out k h1 h2))
     have HKZ : Hid (TyV w K z [.int .i64 (kd z),.int .i64 (nm z),.slice pz (ar z).length cz]):=hid kz
     clear hzc hc2 hz hk9 hm kz
     go_wp2_with fail
     obtain ⟨w3,hw3⟩ : ∃ w3,w3 = w2.alloc (.cells #[.int .i64 9,.int .i64 m,.slice px2 (ar x).length cx2] 24):=⟨_,rfl⟩
     have HF23 : Hid (Fr [] w2 w3):=hid (by rw [hw3];exact (Fr.refl _ _).alloc _)
     have HBN3 : Hid (Blk w3 w2.heap.size 24 #[.int .i64 9,.int .i64 m,.slice px2 (ar x).length cx2]):=hid (by rw [hw3];exact Blk.new _ _ _)
     rw [← hw3]
     clear hw3
     refine (isunsolved_any z _ w3 _ (HKZ2.out w3 (HF2'.out.trans (HF23.out.nil [e])))).mono ?_
     rintro en w4 ⟨rfl,hf4⟩
     have HF24:=hid (HF23.out.trans hf4)
     have HF4':=hid (HF2'.out.trans (HF24.out.nil [e]))
     have HE4:=hid (HE2.out.keep0 HF24.out)
     have HBT4:=hid (HBT2.out.keep HF24.out (by simp))
     have HBR4:=hid (HBR2.out.keep HF24.out (by simp))
     have HBN4:=hid (HBN3.out.keep hf4 (by simp))
     have HZN : Hid (e ≠ w2.heap.size ∧ w.heap.size ≠ w2.heap.size):=hid (by omega)
     clear hf4 s0 s1 s2 hz0 hz1 x0 x1 x2 z0 z1 z2 f0 f1 f2 hel HF23 HBN3
     have s0 : w4.cell? ⟨w.heap.size,0,none⟩ = some (.int .i64 9):=HBT4.out.cell 0
     have s1 : w4.cell? ⟨w.heap.size,1,none⟩ = some (.int .i64 n):=HBT4.out.cell 1
     have s2 : w4.cell? ⟨w.heap.size,2,none⟩ = some (.slice p' (ar t).length c'):=HBT4.out.cell 2
     have f0:=HBT4.out.frozen 0
     have f1:=HBT4.out.frozen 1
     have f2:=HBT4.out.frozen 2
     have hz0 : w.heap.size < w4.heap.size:=HBT4.out.lt
     have hz1 : w.heap.size + 1 < w4.heap.size:=HBR4.out.lt
     have hel : e < w4.heap.size:=HE4.out.lt
     rcases HZC.out with ⟨hu,hyx⟩ | ⟨hu,hyz⟩
     ·rw [hu]
      obtain ⟨px4,cx4,kx4,x0,x1,x2,_⟩:=HE4.out.el HX.out
      have HKX4:=hid (TyV.weak (N':=fun k => k ≠ e) kx4 (fun k h1 h2 => HK.out k h1 h2))
      clear hu kx4
      go_wp2_with fail
      go_roundg (g2 + 1)
      case measure => omega
      case rel => exact ⟨E',x,px4,cx4,HYX,HSH,hid (HE4.out.at (set3_block _ _ _ HZ2.out.1)),hid (HBT4.out.set3 _ _ _),HKX4,hid (HBR4.out.keep ((Fr.refl [w.heap.size] _).set3 (b:=w.heap.size) (.inl (by simp)) _ _ _) (by simp)),hid (HF4'.out.set3 (.inr (Nat.le_refl _)) _ _ _)⟩
     ·rw [hu]
      have HU2:=hid hu
      have HYZ:=hid hyz
      obtain ⟨pz4,cz4,kz4,z0,z1,z2,zf⟩:=HE4.out.el HZ.out
      have n0 : w4.cell? ⟨w2.heap.size,0,none⟩ = some (.int .i64 9):=HBN4.out.cell 0
      have n1 : w4.cell? ⟨w2.heap.size,1,none⟩ = some (.int .i64 m):=HBN4.out.cell 1
      have hzn : w2.heap.size < w4.heap.size:=HBN4.out.lt
      obtain ⟨px4,cx4,_,x0,x1,x2,_⟩:=HE4.out.el HX.out
      have HKZ4:=hid kz4
      have g0:=zf (n * 3)
      have g1':=zf (n * 3 + 1)
      have g2':=zf (n * 3 + 2)
      have HEL4 : Hid (n < E'.length):=hid (by rw [HLE.out];exact hnl)
      clear hu hyz kz4 zf
      go_wp2_with fail
      go_cut [] (fun wx => ElsA w wx K e cap (E'.set n z) ∧ Fr [e] w4 wx)
      case first =>
       go_region
       all_goals (try go_wp2_with fail)
       all_goals (go_meet;exact ⟨(HE4.out.keep0 ((Fr.refl [] w4).drew)).set HEL4.out HKZ4.out,((Fr.refl [e] w4).drew).trans (Fr.cells3 _ _ _ _ _ _)⟩)
      case rest =>
      obtain ⟨he5,hf5⟩:=hcut
      obtain ⟨w5,hw5⟩ : ∃ v : World,v = wc:=⟨_,rfl⟩
      subst hw5
      have HE5:=hid he5
      have HF5:=hid hf5
      have HSH5 : Hid (Shr E (E'.set n z)):=hid (HSH.out.trans (Shr.set HX.out HU.out HK9.out HM.out HZ.out HU2.out))
      have HBT5:=hid (HBT4.out.keep hf5 (by have:=HZ2.out.1;simp;omega))
      have HBR5:=hid (HBR4.out.keep hf5 (by have:=HZ2.out.2;simp;omega))
      clear he5 hf5 s0 s1 s2 f0 f1 f2 hz0 hz1 hel x0 x1 x2 z0 z1 z2 n0 n1 hzn g0 g1' g2' HBT4 HBR4
      have s0 : w5.cell? ⟨w.heap.size,0,none⟩ = some (.int .i64 9):=HBT5.out.cell 0
      have s1 : w5.cell? ⟨w.heap.size,1,none⟩ = some (.int .i64 n):=HBT5.out.cell 1
      have s2 : w5.cell? ⟨w.heap.size,2,none⟩ = some (.slice p' (ar t).length c'):=HBT5.out.cell 2
      have f0:=HBT5.out.frozen 0
      have f1:=HBT5.out.frozen 1
      have f2:=HBT5.out.frozen 2
      have hz0 : w.heap.size < w5.heap.size:=HBT5.out.lt
      have hel : e < w5.heap.size:=HE5.out.lt
      obtain ⟨pz5,cz5,kz5,z0,z1,z2,_⟩:=HE5.out.el (List.getElem?_set_self HEL4.out)
      have HKZ5:=hid (TyV.weak (N':=fun k => k ≠ e) kz5 (fun k h1 h2 => HK.out k h1 h2))
      clear kz5
      go_wp2_with fail
      go_roundg g2
      case measure => omega
      case rel => exact ⟨E'.set n z,z,pz5,cz5,hid ((Shr.set HX.out HU.out HK9.out HM.out HZ.out HU2.out).end' _ _ _ HYZ.out),HSH5,hid (HE5.out.at (set3_block _ _ _ HZ2.out.1)),hid (HBT5.out.set3 _ _ _),HKZ5,hid (HBR5.out.keep ((Fr.refl [w.heap.size] _).set3 (b:=w.heap.size) (.inl (by simp)) _ _ _) (by simp)),hid ((HF4'.out.trans HF5.out).set3 (.inr (Nat.le_refl _)) _ _ _)⟩
    ·have ek : (kd x == 9) = false:=by simpa using hk9
     have HK9:=hid hk9
     clear hk9
     go_wp2_with fail
     go_roundg g1
     case measure => omega
     case rel => exact ⟨E',x,px2,cx2,HYX,HSH,hid ((HE2.out.at (set3_block _ _ _ HZ2.out.1)).keep0 ((Fr.refl [] _).alloc _)),hid ((HBT2.out.set3 _ _ _).alloc _),HKXe,hid ((HBR2.out.keep ((Fr.refl [w.heap.size] _).set3 (b:=w.heap.size) (.inl (by simp)) _ _ _) (by simp)).alloc _),hid ((HF2'.out.set3 (.inr (Nat.le_refl _)) _ _ _).alloc _)⟩
end Go.Proofs.Ytcdlnhfgehhkcaa
namespace Go.Proofs.Ytcdlnhfgehhkcaa
open Go.RowKit Go.Lib
open Un (kd nm ar size sizes unsolved endT Shr)
namespace Un
def appStepG (E : List Ty) (fe : Nat) (rec : Ty → Option Ty) (a : Ty) : Option (Unit × Option Ty):=
 if kd a = 9 then (if 0 ≤ nm a then match E[(nm a).toNat]? with
  | none => none
  | some x => if unsolved x = true then some ((),none) else match endT E fe a with
   | none => none
   | some y => match rec y with
    | none => none
    | some r => some ((),some r)
  else none)
 else some ((),none)
def appG (E : List Ty) (fe : Nat) : Nat → Ty → Option Ty
 | 0,_ => none
 | f + 1,t => match mapS (fun (_ : Unit) a => appStepG E fe (appG E fe f) a) () t with
  | none => none
  | some r => some r.2
theorem appStepG_cases {E : List Ty} {fe : Nat} {rec : Ty → Option Ty} {a : Ty} {q : Unit × Option Ty} (h : appStepG E fe rec a = some q) :
  (kd a ≠ 9 ∧ q = ((),none)) ∨ (∃ (n : Nat) (x : Ty),kd a = 9 ∧ nm a = n ∧ E[n]? = some x ∧ unsolved x = true ∧ q = ((),none)) ∨ (∃ (n : Nat) (x y r : Ty),kd a = 9 ∧ nm a = n ∧ E[n]? = some x ∧ unsolved x = false ∧ endT E fe a = some y ∧ rec y = some r ∧ q = ((),some r)):=by
 unfold appStepG at h
 by_cases h9 : kd a = 9
 ·rw [if_pos h9] at h
  by_cases h0 : 0 ≤ nm a
  ·rw [if_pos h0] at h
   cases hx : E[(nm a).toNat]? with
   | none => rw [hx] at h;cases h
   | some x =>
    rw [hx] at h
    simp only at h
    by_cases hu : unsolved x = true
    ·rw [if_pos hu] at h
     exact .inr (.inl ⟨(nm a).toNat,x,h9,by omega,hx,hu,(Option.some.inj h).symm⟩)
    ·rw [if_neg hu] at h
     cases he : endT E fe a with
     | none => rw [he] at h;cases h
     | some y =>
      rw [he] at h
      simp only at h
      cases hr : rec y with
      | none => rw [hr] at h;cases h
      | some r =>
       rw [hr] at h
       exact .inr (.inr ⟨(nm a).toNat,x,y,r,h9,by omega,hx,by simpa using hu,rfl,hr,(Option.some.inj h).symm⟩)
  ·rw [if_neg h0] at h;cases h
 ·rw [if_neg h9] at h
  exact .inl ⟨h9,(Option.some.inj h).symm⟩
theorem endT_size {E : List Ty} {B : Nat} (hE : ∀ x ∈ E,size x ≤ B) : ∀ {f : Nat} {t y : Ty},endT E f t = some y → size t ≤ B → size y ≤ B
 | f,t,y,h,hs => by
  obtain ⟨f1,rfl,hc⟩:=endT_cases h
  rcases hc with ⟨_,rfl⟩ | ⟨n,x,_,_,h3,⟨_,rfl⟩ | ⟨_,h5⟩⟩
  ·exact hs
  ·exact hs
  ·exact endT_size hE h5 (hE x (List.mem_of_getElem? h3))
termination_by f => f
end Un
open Un (appStepG appG)
structure AppI (w1 : World) (D : Nat → Prop) (E : List Ty) (e cap pE pA pF : Nat) (w : World) : Prop where
 sz : w1.heap.size ≤ w.heap.size
 lat : ∀ k,D k → w.heap[k]? = w1.heap[k]?
 dl : ∀ k,D k → k < w1.heap.size
 de : ¬ D e
 els : ∃ E',Shr E E' ∧ ElsA w w D e cap E'
 lt : e < w1.heap.size
 be : Blk w1 pE 22 #[.slice (some ⟨e,0,none⟩) E.length cap]
 ba : Blk w1 pA 57 #[.func (.func 81) #[] #[.pointer (some ⟨pF,0,none⟩)]]
 bf : Blk w1 pF 79 #[.func (.func 79) #[] #[.pointer (some ⟨pE,0,none⟩),.pointer (some ⟨pA,0,none⟩)]]
 ne : D pE ∧ D pA ∧ D pF
theorem AppI.stay {w1 : World} {D : Nat → Prop} {E : List Ty} {e cap pE pA pF : Nat} {w w' : World} (h : AppI w1 D E e cap pE pA pF w) (hs : w.heap.size ≤ w'.heap.size) (hb : ∀ k,D k → w'.heap[k]? = w.heap[k]?) (he : w'.heap[e]? = w.heap[e]?) : AppI w1 D E e cap pE pA pF w':=by
 obtain ⟨h0,h1,h2,h3,⟨E',h4,h5⟩,h6,h7,h8,h9,h10⟩:=h
 exact ⟨Nat.le_trans h0 hs,fun k hk => (hb k hk).trans (h1 k hk),h2,h3,⟨E',h4,(h5.at he).base (fun k hk hl => ⟨hk,Nat.lt_of_lt_of_le hl hs,hb k hk⟩)⟩,h6,h7,h8,h9,h10⟩
theorem AppI.keep {w1 : World} {D : Nat → Prop} {E : List Ty} {e cap pE pA pF : Nat} {w w' : World} (h : AppI w1 D E e cap pE pA pF w) (hs : w.heap.size ≤ w'.heap.size) (hb : ∀ k,k < w1.heap.size → w'.heap[k]? = w.heap[k]?) : AppI w1 D E e cap pE pA pF w':=h.stay hs (fun k hk => hb k (h.dl k hk)) (hb e h.lt)
theorem AppI.fr {w1 : World} {D : Nat → Prop} {E : List Ty} {e cap pE pA pF : Nat} {w w' : World} (h : AppI w1 D E e cap pE pA pF w) (hf : Fr [] w w') : AppI w1 D E e cap pE pA pF w':=h.keep hf.size (fun k hk => hf.block k (Nat.lt_of_lt_of_le hk h.sz) (by simp))
theorem AppI.beside {w1 : World} {D : Nat → Prop} {E : List Ty} {e cap pE pA pF : Nat} {w w' : World} (h : AppI w1 D E e cap pE pA pF w) {X : List Nat} (hf : Fr X w w') (hX : ∀ k ∈ X,¬ D k ∧ k ≠ e) : AppI w1 D E e cap pE pA pF w':=
 h.stay hf.size (fun k hk => hf.block k (Nat.lt_of_lt_of_le (h.dl k hk) h.sz) (fun hx => (hX k hx).1 hk)) (hf.block e (Nat.lt_of_lt_of_le h.lt h.sz) (fun hx => (hX e hx).2 rfl))
theorem AppI.blk {w1 : World} {D : Nat → Prop} {E : List Ty} {e cap pE pA pF : Nat} {w : World} (h : AppI w1 D E e cap pE pA pF w) {b T : Nat} {cs : Array Value} (hb : Blk w1 b T cs) (hne : D b) : Blk w b T cs:=(h.lat b hne).trans hb
theorem AppI.neq {w1 : World} {D : Nat → Prop} {E : List Ty} {e cap pE pA pF : Nat} {w : World} (h : AppI w1 D E e cap pE pA pF w) {k : Nat} (hk : D k) : k ≠ e:=fun he => h.de (he ▸ hk)
theorem kept_app (w1 : World) (D : Nat → Prop) (E : List Ty) (e cap pE pA pF : Nat) (he : e < w1.heap.size) : Kept w1.heap.size [e] (fun k => k ≠ e) (fun (_ : Unit) (w : World) => AppI w1 D E e cap pE pA pF w):=
 ⟨fun _ w w' h hs hb => h.keep hs hb,fun _ _ h => h.sz,fun k hk => by rw [List.mem_singleton] at hk;rw [hk];exact he,fun k hk h => by rw [List.mem_singleton] at hk;exact h hk⟩
theorem AppI.after {w1 : World} {D : Nat → Prop} {E : List Ty} {e cap pE pA pF : Nat} {w w' : World} (h : AppI w1 D E e cap pE pA pF w) (hf : Fr [e] w w') {E1 E2 : List Ty} (h1 : Shr E E1) (h2 : Shr E1 E2) (hE : ElsA w w' D e cap E2) : AppI w1 D E e cap pE pA pF w':=by
 have hb : ∀ k,D k → w'.heap[k]? = w.heap[k]?:=fun k hk => hf.block k (Nat.lt_of_lt_of_le (h.dl k hk) h.sz) (by simpa using h.neq hk)
 exact ⟨Nat.le_trans h.sz hf.size,fun k hk => (hb k hk).trans (h.lat k hk),h.dl,h.de,⟨E2,h1.trans h2,hE.base (fun k hk hl => ⟨hk,Nat.lt_of_lt_of_le hl hf.size,hb k hk⟩)⟩,h.lt,h.be,h.ba,h.bf,h.ne⟩
set_option maxRecDepth 100000 in
set_option maxHeartbeats 3200000 in
theorem app1G_any (D : Nat → Prop) (E : List Ty) (e cap pE pA pF : Nat) (w1 w : World) (hI : AppI w1 D E e cap pE pA pF w) (fe : Nat) (rec : Ty → Option Ty) (hsE : ∀ x ∈ E,size x ≤ 100000)
  (hrec : ∀ y r,size y ≤ 100000 → rec y = some r → ∀ (cs : List Value) (w : World),AppI w1 D E e cap pE pA pF w → TyV w (fun k => k ≠ e) y cs → Calls Try.prog 81 #[.agg cs.toArray,.pointer (some ⟨pF,0,none⟩)] w (MadeP [e] (fun (_ : Unit) (w : World) => AppI w1 D E e cap pE pA pF w) ((),r) w))
  (a : Ty) (hsa : size a ≤ 100000) (cs : List Value) (h : TyV w (fun k => k ≠ e) a cs) (q : Unit × Option Ty) (hq : appStepG E fe rec a = some q) :
  Calls Try.prog 79 #[.agg cs.toArray,.pointer (some ⟨pE,0,none⟩),.pointer (some ⟨pA,0,none⟩)] w (StepP [e] (fun (_ : Unit) (w : World) => AppI w1 D E e cap pE pA pF w) q w):=by
 have hE : ∀ (args : Array Value) (w : World),(callFunc 81 args).run Try.prog w = .ok (.enter 81 args) w:=enters_app2
 obtain ⟨p,c,rfl,_⟩:=h.shape
 have HI:=hid hI
 have HT:=hid h
 obtain ⟨E',hsh,hels⟩:=hI.els
 have HSH:=hid hsh
 have HELS:=hid hels
 have hew : e < w.heap.size:=Nat.lt_of_lt_of_le hI.lt hI.sz
 have HEW:=hid hew
 rcases Un.appStepG_cases hq with ⟨h9,rfl⟩ | ⟨n,x,h9,hn,hx,hu,rfl⟩ | ⟨n,x,y,r,h9,hn,hx,hu,hy,hr,rfl⟩
 ·have e1 : (kd a != 9) = true:=by simp [h9]
  have HD : Hid (StepP [e] (fun (_ : Unit) (w : World) => AppI w1 D E e cap pE pA pF w) ((),none) w (.returned (.tuple #[.agg #[.int .i64 0,.int .i64 0,.slice none 0 0],.bool false])) ((w.alloc (.cells #[.int .i64 (kd a),.int .i64 (nm a),.slice p (ar a).length c] 24)).alloc (.cells #[.int .i64 0,.int .i64 0,.slice none 0 0] 24))):=by
   have hf : Fr [] w ((w.alloc (.cells #[.int .i64 (kd a),.int .i64 (nm a),.slice p (ar a).length c] 24)).alloc (.cells #[.int .i64 0,.int .i64 0,.slice none 0 0] 24)):=((Fr.refl _ _).alloc _).alloc _
   exact hid ⟨hf.nil [e],hI.fr hf,.inl ⟨rfl,rfl⟩⟩
  clear hI hq h hrec h9 hsh hels hew
  go_enter Try.func79,Try.ntmps79
  go_wp2_with fail
  exact bodyPost_ret (v:=.tuple #[.agg #[.int .i64 0,.int .i64 0,.slice none 0 0],.bool false]) (by simp [results,Try.results79,go_sem]) rfl HD.out
 all_goals
  have hnl : n < E.length:=(List.getElem?_eq_some_iff.1 hx).1
  have hnl' : n < E'.length:=by rw [hsh.len];exact hnl
  obtain ⟨x',hx'⟩ : ∃ x',E'[n]? = some x':=⟨_,List.getElem?_eq_getElem hnl'⟩
  have HX':=hid hx'
  have HU : Hid (unsolved x' = unsolved x):=hid (hsh.uns n x x' hx hx')
  obtain ⟨p1,c1,k1,g0,g1,g2,_⟩:=hels.el hx'
  have K1:=hid k1
  have hlm:=hels.1
  have hlm2:=hels.2.1
  rw [hsh.len] at hlm
  unfold maxLen at hlm2
  have e4 : decide (n < E.length) = true:=by simpa using hnl
  have e5 : decide ((n : Int) < (E.length : Int)) = true:=by simp;omega
  have s0 : w.cell? ⟨pE,0,none⟩ = some (.slice (some ⟨e,0,none⟩) E.length cap):=(hI.blk hI.be hI.ne.1).cell 0
  have hz : pE < w.heap.size:=(hI.blk hI.be hI.ne.1).lt
  rw [h9,hn] at HT ⊢
  obtain ⟨w0,hw0⟩ : ∃ w0,w0 = (w.alloc (.cells #[.int .i64 9,.int .i64 n,.slice p (ar a).length c] 24)).alloc (.cells #[.int .i64 0,.int .i64 0,.slice none 0 0] 24):=⟨_,rfl⟩
  have HF0 : Hid (Fr [] w w0):=hid (by rw [hw0];exact ((Fr.refl _ _).alloc _).alloc _)
  have HB0 : Hid (Blk w0 w.heap.size 24 #[.int .i64 9,.int .i64 n,.slice p (ar a).length c]):=hid (by rw [hw0];exact (Blk.new _ _ _).alloc _)
  have HB1 : Hid (Blk w0 (w.heap.size + 1) 24 #[.int .i64 0,.int .i64 0,.slice none 0 0]):=hid (by rw [hw0];exact Blk.new_at (by simp))
 ·have HU0:=hid hu
  clear hI hq h hrec h9 hn hx hu hx' k1 hsh hels
  go_enter Try.func79,Try.ntmps79
  go_wp2_with fail
  rw [← hw0]
  clear hw0
  refine (isunsolved_any x' _ _ _ (K1.out.keep0 HF0.out)).mono ?_
  rw [HU.out,HU0.out]
  rintro en w2 ⟨rfl,hf2⟩
  have HF2:=hid (HF0.out.trans hf2)
  have HBR2:=hid (HB1.out.keep hf2 (by simp))
  clear hf2 s0 hz g0 g1 g2
  have r0 : w2.cell? ⟨w.heap.size + 1,0,none⟩ = some (.int .i64 0):=HBR2.out.cell 0
  have r1 : w2.cell? ⟨w.heap.size + 1,1,none⟩ = some (.int .i64 0):=HBR2.out.cell 1
  have r2 : w2.cell? ⟨w.heap.size + 1,2,none⟩ = some (.slice none 0 0):=HBR2.out.cell 2
  have t0:=HBR2.out.frozen 0
  have t1:=HBR2.out.frozen 1
  have t2:=HBR2.out.frozen 2
  have hz1 : w.heap.size + 1 < w2.heap.size:=HBR2.out.lt
  go_wp2_with fail
  have hbx:=HBR2.out.set3 (.int .i64 0) (.int .i64 0) (.slice none 0 0)
  have d0:=hbx.cell 0
  have d1:=hbx.cell 1
  have d2:=hbx.cell 2
  have hf3:=HF2.out.set3 (b:=w.heap.size + 1) (.inr (by omega)) (.int .i64 0) (.int .i64 0) (.slice none 0 0)
  exact bodyPost_ret (v:=.tuple #[.agg #[.int .i64 0,.int .i64 0,.slice none 0 0],.bool false]) (by simp [results,Try.results79,go_sem,d0,d1,d2]) rfl ⟨hf3.nil [e],HI.out.fr hf3,.inl ⟨rfl,rfl⟩⟩
 ·have HU0:=hid hu
  have HY : Hid (endT E' fe a = some y):=hid (hsh.end' _ _ _ hy)
  have hsy:=Un.endT_size hsE hy hsa
  have HR : Hid (∀ (cs : List Value) (w : World),AppI w1 D E e cap pE pA pF w → TyV w (fun k => k ≠ e) y cs → Calls Try.prog 81 #[.agg cs.toArray,.pointer (some ⟨pF,0,none⟩)] w (MadeP [e] (fun (_ : Unit) (w : World) => AppI w1 D E e cap pE pA pF w) ((),r) w)):=hid (hrec y r hsy hr)
  have HLEN : Hid (E'.length = E.length):=hid hsh.len
  clear hI hq h hrec h9 hn hx hu hx' k1 hsh hels hy hr hsy
  go_enter Try.func79,Try.ntmps79
  go_wp2_with fail
  rw [← hw0]
  clear hw0
  refine (isunsolved_any x' _ _ _ (K1.out.keep0 HF0.out)).mono ?_
  rw [HU.out,HU0.out]
  rintro en w2 ⟨rfl,hf2⟩
  have HF2:=hid (HF0.out.trans hf2)
  have HBX2:=hid (HB0.out.keep hf2 (by simp))
  have HBR2:=hid (HB1.out.keep hf2 (by simp))
  have HI2:=hid (HI.out.fr HF2.out)
  clear hf2 s0 hz g0 g1 g2
  have r0 : w2.cell? ⟨w.heap.size,0,none⟩ = some (.int .i64 9):=HBX2.out.cell 0
  have r1 : w2.cell? ⟨w.heap.size,1,none⟩ = some (.int .i64 n):=HBX2.out.cell 1
  have r2 : w2.cell? ⟨w.heap.size,2,none⟩ = some (.slice p (ar a).length c):=HBX2.out.cell 2
  have q0 : w2.cell? ⟨pE,0,none⟩ = some (.slice (some ⟨e,0,none⟩) E.length cap):=(HI2.out.blk HI2.out.be HI2.out.ne.1).cell 0
  have q1 : w2.cell? ⟨pA,0,none⟩ = some (.func (.func 81) #[] #[.pointer (some ⟨pF,0,none⟩)]):=(HI2.out.blk HI2.out.ba HI2.out.ne.2.1).cell 0
  have l0 : w.heap.size < w2.heap.size:=HBX2.out.lt
  have l1 : pE < w2.heap.size:=(HI2.out.blk HI2.out.be HI2.out.ne.1).lt
  have l2 : pA < w2.heap.size:=(HI2.out.blk HI2.out.ba HI2.out.ne.2.1).lt
  have l3 : w.heap.size + 1 < w2.heap.size:=HBR2.out.lt
  have d0 : w2.drew.cell? ⟨w.heap.size,0,none⟩ = some (.int .i64 9):=r0
  have d1 : w2.drew.cell? ⟨w.heap.size,1,none⟩ = some (.int .i64 n):=r1
  have d2 : w2.drew.cell? ⟨w.heap.size,2,none⟩ = some (.slice p (ar a).length c):=r2
  have d3 : w2.drew.cell? ⟨pE,0,none⟩ = some (.slice (some ⟨e,0,none⟩) E.length cap):=q0
  have d4 : w2.drew.cell? ⟨pA,0,none⟩ = some (.func (.func 81) #[] #[.pointer (some ⟨pF,0,none⟩)]):=q1
  have m0 : w.heap.size < w2.drew.heap.size:=l0
  have m1 : pE < w2.drew.heap.size:=l1
  have m2 : pA < w2.drew.heap.size:=l2
  have HD2 : Hid (Fr [] w w2.drew):=hid HF2.out.drew
  have HID : Hid (AppI w1 D E e cap pE pA pF w2.drew):=hid (HI.out.fr HD2.out)
  have HTD : Hid (TyV w2.drew (fun k => k ≠ e) a [.int .i64 9,.int .i64 n,.slice p (ar a).length c]):=hid (HT.out.keep0 HD2.out)
  have HED : Hid (ElsA w2.drew w2.drew D e cap E'):=hid ((HELS.out.keep0 HD2.out).base (fun k hk hl => ⟨hk,Nat.lt_of_lt_of_le hl HD2.out.size,HD2.out.block k hl (by simp)⟩))
  have HEND : Hid (Calls Try.prog 80 #[.slice (some ⟨e,0,none⟩) E.length cap,.agg #[.int .i64 9,.int .i64 n,.slice p (ar a).length c]] w2.drew (EndP D e cap E' y w2.drew)):=hid (by
   have h1:=endofG_any E' D e cap a y fe _ w2.drew HED.out HTD.out (fun k _ h => HI.out.neq h) HY.out
   rwa [HLEN.out] at h1)
  have HPA : Hid (pA ≠ e):=hid (HI.out.neq HI.out.ne.2.1)
  have HNB : Hid (w.heap.size + 1 ≠ e):=hid (by have:=HEW.out;omega)
  have HFA : Hid (∀ w3,Fr [e] w2.drew w3 → w3.cell? ⟨pA,0,none⟩ = some (.func (.func 81) #[] #[.pointer (some ⟨pF,0,none⟩)]) ∧ pA < w3.heap.size):=hid (fun w3 hf => ⟨by rw [hf.cell (by exact l2) (by simpa using HPA.out)];exact q1,Nat.lt_of_lt_of_le l2 hf.size⟩)
  have HFB : Hid (∀ w4,Fr [e] w2.drew w4 → Blk w4 (w.heap.size + 1) 24 #[.int .i64 0,.int .i64 0,.slice none 0 0]):=hid (fun w4 hf => HBR2.out.keep (X:=[e]) (((Fr.refl [] w2).drew.nil [e]).trans hf) (by simpa using HNB.out))
  go_wp2_with fail
  go_region_law (first | (go_simp;go_at_call 80;(with_reducible refine HEND.out.mono ?_);rintro en w3 ⟨hf3,ds,E2,rfl,hty,hsh2,hel2⟩;obtain ⟨p3,c3,rfl,_⟩:=hty.shape;have HF3:=hid hf3;have HT3:=hid (TyV.keep hty hf3 (fun k hk h => by rw [List.mem_singleton] at hk;exact h hk));obtain ⟨a1,a2⟩:=HFA.out w3 hf3;have HI3:=hid (HID.out.after hf3 HSH.out hsh2 hel2);clear hf3 hty hsh2 hel2) | (go_simp;go_at_call 81;refine (HR.out _ _ HI3.out HT3.out).mono ?_;rintro en w4 ⟨hf4,hi4,ds,rfl,hty⟩;obtain ⟨p4,c4,rfl,_⟩:=hty.shape;have HF4:=hid (HF3.out.trans hf4);have HI4:=hid hi4;have HT4:=hid (TyV.weak (N':=fun k => w.heap.size + 2 ≤ k) hty (fun k hk h => by have h1:=HF3.out.size;have h2:=l3;have h3 : w3.heap.size ≤ k:=h;have h4 : w2.drew.heap.size = w2.heap.size:=rfl;omega));have HB4:=hid (HFB.out w4 HF4.out);have x0:=HB4.out.cell 0;have x1:=HB4.out.cell 1;have x2:=HB4.out.cell 2;have y0:=HB4.out.frozen 0;have y1:=HB4.out.frozen 1;have y2:=HB4.out.frozen 2;have z0:=HB4.out.lt;clear hf4 hty hi4))
  all_goals
   have hbx:=HB4.out.set3 (.int .i64 (kd r)) (.int .i64 (nm r)) (.slice p4 (ar r).length c4)
   have HY0:=hid (hbx.cell 0)
   have HY1:=hid (hbx.cell 1)
   have HY2:=hid (hbx.cell 2)
   have hf5:=((HD2.out.nil [e]).trans HF4.out).set3 (b:=w.heap.size + 1) (.inr (by omega)) (.int .i64 (kd r)) (.int .i64 (nm r)) (.slice p4 (ar r).length c4)
   have HF5:=hid hf5
   have HI5:=hid (HI4.out.keep (w':=((w4.setCell ⟨w.heap.size + 1,0,none⟩ (.int .i64 (kd r))).setCell ⟨w.heap.size + 1,1,none⟩ (.int .i64 (nm r))).setCell ⟨w.heap.size + 1,2,none⟩ (.slice p4 (ar r).length c4)) (by simp [World.setCell]) (fun k hk => set3_block _ _ _ (by have:=HI.out.sz;omega)))
   have HT5 : Hid (TyV (((w4.setCell ⟨w.heap.size + 1,0,none⟩ (.int .i64 (kd r))).setCell ⟨w.heap.size + 1,1,none⟩ (.int .i64 (nm r))).setCell ⟨w.heap.size + 1,2,none⟩ (.slice p4 (ar r).length c4)) (fun k => w.heap.size ≤ k) r [.int .i64 (kd r),.int .i64 (nm r),.slice p4 (ar r).length c4]):=hid (HT4.out.mono (fun k hk hl => ⟨by omega,by simpa [World.setCell] using hl,set3_block _ _ _ (by omega)⟩))
   clear hbx hf5 x0 x1 x2 y0 y1 y2 z0
   go_wp2_with fail
   have d0:=HY0.out
   have d1:=HY1.out
   have d2:=HY2.out
   exact bodyPost_ret (v:=.tuple #[.agg #[.int .i64 (kd r),.int .i64 (nm r),.slice p4 (ar r).length c4],.bool true]) (by simp [results,Try.results79,go_sem,d0,d1,d2]) rfl ⟨HF5.out,HI5.out,.inr ⟨r,_,rfl,rfl,HT5.out⟩⟩
end Go.Proofs.Ytcdlnhfgehhkcaa
namespace Go.Proofs.Ytcdlnhfgehhkcaa
open Go.RowKit Go.Lib
open Un (kd nm ar size sizes unsolved endT Shr appStepG appG)
set_option maxRecDepth 100000 in
set_option maxHeartbeats 1600000 in
theorem applyG_any (D : Nat → Prop) (E : List Ty) (e cap pE pA pF : Nat) (w1 : World) (he : e < w1.heap.size) (fe : Nat) (hE : ∀ x ∈ E,size x ≤ 100000) : ∀ (f : Nat) (t r : Ty),appG E fe f t = some r → size t ≤ 100000 → ∀ (cs : List Value) (w : World),AppI w1 D E e cap pE pA pF w → TyV w (fun k => k ≠ e) t cs →
  Calls Try.prog 81 #[.agg cs.toArray,.pointer (some ⟨pF,0,none⟩)] w (MadeP [e] (fun (_ : Unit) (w : World) => AppI w1 D E e cap pE pA pF w) ((),r) w):=by
 intro f
 induction f with
 | zero => intro t r h;simp [appG] at h
 | succ f ih =>
  intro t r hr hs cs w hI h
  rw [appG] at hr
  obtain ⟨q,hq,rfl⟩ : ∃ q,mapS (fun (_ : Unit) a => appStepG E fe (appG E fe f) a) () t = some q ∧ q.2 = r:=by
   cases h1 : mapS (fun (_ : Unit) a => appStepG E fe (appG E fe f) a) () t with
   | none => simp [h1] at hr
   | some q => rw [h1] at hr;simp only [Option.some.injEq] at hr;exact ⟨q,rfl,hr⟩
  have HM:=hid (fun (w : World) (cs : List Value) (hI : AppI w1 D E e cap pE pA pF w) (h : TyV w (fun k => k ≠ e) t cs) => mapped_any 79 #[.pointer (some ⟨pE,0,none⟩),.pointer (some ⟨pA,0,none⟩)] w1.heap.size [e] (fun k => k ≠ e) (fun (_ : Unit) (w : World) => AppI w1 D E e cap pE pA pF w) (fun _ a => appStepG E fe (appG E fe f) a) enters_app1 (kept_app w1 D E e cap pE pA pF he) (size t) t (Nat.le_refl _) hs
   (fun a hsa s cs w r hl ht hr => app1G_any D E e cap pE pA pF w1 w hl fe (appG E fe f) hE (fun y r hy hr cs w hl ht => ih y r hr hy cs w hl ht) a (by omega) cs ht r hr) () cs w q hI h hq)
  obtain ⟨p,c,rfl,_⟩:=h.shape
  have HT:=hid h
  have HI:=hid hI
  have hew : e < w.heap.size:=Nat.lt_of_lt_of_le he hI.sz
  have s0 : w.cell? ⟨pF,0,none⟩ = some (.func (.func 79) #[] #[.pointer (some ⟨pE,0,none⟩),.pointer (some ⟨pA,0,none⟩)]):=(hI.blk hI.bf hI.ne.2.2).cell 0
  have hz : pF < w.heap.size:=(hI.blk hI.bf hI.ne.2.2).lt
  obtain ⟨w2,hw2⟩ : ∃ w2,w2 = (w.alloc (.cells #[.int .i64 (kd t),.int .i64 (nm t),.slice p (ar t).length c] 24)).alloc (.cells #[.int .i64 0,.int .i64 0,.slice none 0 0] 24):=⟨_,rfl⟩
  have HB1 : Hid (Blk w2 (w.heap.size + 1) 24 #[.int .i64 0,.int .i64 0,.slice none 0 0]):=hid (by rw [hw2];exact Blk.new_at (by simp))
  have HF0 : Hid (Fr [] w w2):=hid (by rw [hw2];exact ((Fr.refl _ _).alloc _).alloc _)
  have hnb : w.heap.size + 1 ≠ e:=by omega
  have HNB:=hid hnb
  clear h hI hr hq ih hnb hew
  go_enter Try.func81,Try.ntmps81
  go_wp2_with fail
  rw [← hw2]
  clear hw2 s0 hz
  refine (HM.out w2 _ (HI.out.fr HF0.out) (HT.out.keep0 HF0.out)).mono ?_
  rintro en w3 ⟨hf3,hi3,ds,rfl,hty⟩
  obtain ⟨p2,c2,rfl,_⟩:=hty.shape
  have HBs:=HB1.out.keep hf3 (by simpa using HNB.out)
  have hbl : w.heap.size + 1 < w2.heap.size:=HB1.out.lt
  have HI3:=hid hi3
  have HF3:=hid ((HF0.out.nil [e]).trans hf3)
  have HT3:=hid hty
  have HD:=HBs.set3 (.int .i64 (kd q.2)) (.int .i64 (nm q.2)) (.slice p2 (ar q.2).length c2)
  have c0 : w3.cell? ⟨w.heap.size + 1,0,none⟩ = some (.int .i64 0):=HBs.cell 0
  have c1 : w3.cell? ⟨w.heap.size + 1,1,none⟩ = some (.int .i64 0):=HBs.cell 1
  have c2' : w3.cell? ⟨w.heap.size + 1,2,none⟩ = some (.slice none 0 0):=HBs.cell 2
  have f0 : w3.frozen? ⟨w.heap.size + 1,0,none⟩ = false:=HBs.frozen 0
  have f1 : w3.frozen? ⟨w.heap.size + 1,1,none⟩ = false:=HBs.frozen 1
  have f2 : w3.frozen? ⟨w.heap.size + 1,2,none⟩ = false:=HBs.frozen 2
  have hle : w.heap.size + 1 < w3.heap.size:=HBs.lt
  have D0:=hid (HD.cell 0)
  have D1:=hid (HD.cell 1)
  have D2:=hid (HD.cell 2)
  have HZ:=hid hbl
  clear HD HBs hf3 hty hi3 hbl
  go_wp2_with fail
  have d0:=D0.out
  have d1:=D1.out
  have d2:=D2.out
  refine bodyPost_ret (v:=.agg #[.int .i64 (kd q.2),.int .i64 (nm q.2),.slice p2 (ar q.2).length c2]) (by simp [results,Try.results81,go_sem,d0,d1,d2]) rfl ⟨HF3.out.set3 (.inr (by omega)) _ _ _,HI3.out.keep (by simp [World.setCell]) (fun k hk => set3_block _ _ _ (by have:=HI.out.sz;omega)),_,rfl,?_⟩
  exact HT3.out.mono (fun k h1 h2 => ⟨by have:=HZ.out;omega,by simpa [World.setCell] using h2,set3_block _ _ _ (by have:=HZ.out;omega)⟩)
def CloneG (N : Nat → Prop) (E : List Ty) (w : World) (en : Ending) (w' : World) : Prop:=∃ e cap,en = .returned (.slice (some ⟨e,0,none⟩) E.length cap) ∧ w.heap.size ≤ e ∧ ElsA w' w' (fun k => k < w.heap.size ∧ N k) e cap E ∧ Fr [] w w'
set_option maxRecDepth 100000 in
set_option maxHeartbeats 1600000 in
theorem cloneG_any (N : Nat → Prop) (E : List Ty) (v : Value) (w : World) (hv : TysV w N E v) (h0 : 0 < E.length) (hl : E.length ≤ 100000) : Calls Try.prog 78 #[v] w (CloneG N E w):=by
 rcases hv.cases with ⟨rfl,_⟩ | ⟨_,b,o,cap,rfl,hc,hm,hat⟩
 ·simp at h0
 unfold maxLen at hm
 obtain ⟨_,hb,xs,hxs,hq⟩:=hat
 have hxl : xs.length = E.length * 3:=by rw [hq.len,rowsQ_ln ln_qTy]
 obtain ⟨j0,hj0,jz0,jz1,jz2⟩:=info_parts info_ty
 have HJ0:=hid hj0
 have HJZ0:=hid jz0
 have HJZ1:=hid jz1
 have HJZ2:=hid jz2
 obtain ⟨w1,hw1⟩ : ∃ w1,w1 = w.alloc (.cells #[] 24):=⟨_,rfl⟩
 have HF1 : Hid (Fr [] w w1):=hid (by rw [hw1];exact (Fr.refl _ _).alloc _)
 have HO1 : Hid (OwnL w1 (fun k => k < w.heap.size ∧ N k) w.heap.size 24 3 0 .nil (.slice (some ⟨w.heap.size,0,none⟩) 0 0)):=hid (OwnL.empty _ (Nat.le_refl _) (by rw [hw1];exact Blk.new _ _ _))
 have HC : Hid (∀ j u,xs[j]? = some u → w1.cell? ((⟨b,o,none⟩ : Addr).add j) = some u):=hid (fun j u hj => by
  rw [addr_add,HF1.out.cell hb (by simp),hxs j (by have:=(List.getElem?_eq_some_iff.1 hj).1;omega),hj])
 have HQ : Hid (InN w1 (fun k => (k < w.heap.size ∧ N k) ∧ some k ≠ (Value.slice (some ⟨w.heap.size,0,none⟩) 0 0).ownBlock) (rowsQ qTy E) xs):=hid (hq.mono (fun k hN hk => ⟨⟨⟨hk,hN⟩,by simp [Value.ownBlock];omega⟩,Nat.lt_of_lt_of_le hk HF1.out.size,HF1.out.block k hk (by simp)⟩))
 have HZ : Hid (w.heap.size ≤ w1.heap.size):=hid HF1.out.size
 have HXL:=hid hxl
 have H0:=hid h0
 have q22 : ∀ (w : World) (a : Option Addr) (n c n' c' : Nat),(binOp .eql 22 (.slice a n c) (.slice none n' c')).run Try.prog w = .ok (.bool a.isNone) w:=fun w a n c n' c' => Lib.run_eql_slice_nil w _ _ a n c n' c' Try.underlying22
 clear hv hxs hq hxl hj0 jz0 jz1 jz2 h0
 go_enter Try.func78,Try.ntmps78
 go_wp2_with (at_builtin;go_loud (rw [← hw1];refine wpList_append_ownl _ rfl _ _ 22 rfl (fun k => k < w.heap.size ∧ N k) w.heap.size 24 j0 _ 3 40 Try.underlying22 HJ0.out HJZ0.out HJZ1.out HJZ2.out rfl (by decide) _ 0 E.length .nil (rowsQ qTy E) rfl HO1.out ⟨b,o,none⟩ cap xs rfl HXL.out HC.out HQ.out (by omega) (by decide) HZ.out ?_;intro v' w2 hL2 hg2 hv2;have HL2:=hid hL2;have HG2:=hid hg2;clear hL2 hg2 hv2))
 go_ret
 have hL2:=HL2.out
 rw [Nat.zero_add] at hL2
 obtain ⟨e,cap2,heq,he,hels⟩:=OwnL.els (l:=E) hL2 H0.out
 exact ⟨e,cap2,by subst heq;rfl,he,hels.base (fun k hk hl => ⟨hk.1,hl,rfl⟩),HF1.out.grown HG2.out (fun k hk => .inr (by cases hk;exact Nat.le_refl _))⟩
def ApplG (N : Nat → Prop) (E : List Ty) (w : World) (en : Ending) (w' : World) : Prop:=∃ e cap pE pA pF,en = .returned (.func (.func 81) #[] #[.pointer (some ⟨pF,0,none⟩)]) ∧ (w.heap.size ≤ e ∧ w.heap.size ≤ pE ∧ w.heap.size ≤ pA ∧ w.heap.size ≤ pF) ∧ AppI w' (fun k => (k < w.heap.size ∧ N k) ∨ k = pE ∨ k = pA ∨ k = pF) E e cap pE pA pF w' ∧ Fr [] w w'
set_option maxHeartbeats 1600000 in
theorem applicationG_any (N : Nat → Prop) (E : List Ty) (v : Value) (w : World) (hv : TysV w N E v) (h0 : 0 < E.length) (hl : E.length ≤ 100000) : Calls Try.prog 55 #[v] w (ApplG N E w):=by
 have HV:=hid hv
 have hmf1:=run_makeApp1
 have hmf2:=run_makeApp2
 obtain ⟨p,c,rfl⟩:=hv.shape
 clear hv
 go_enter Try.func55,Try.ntmps55
 go_wp2_with fail
 refine (cloneG_any N E _ w HV.out h0 hl).mono ?_
 rintro en w2 ⟨e,cap,rfl,he,hels,hf2⟩
 have HE2:=hid hels
 have HF2:=hid hf2
 have HEW:=hid he
 clear hels hf2 he
 go_wp2_with fail
 go_ret
 have hf4 : Fr [] w2 (((w2.alloc (.cells #[.slice (some ⟨e,0,none⟩) E.length cap] 22)).alloc (.cells #[.func (.func 81) #[] #[.pointer (some ⟨w2.heap.size + 1 + 1,0,none⟩)]] 57)).alloc (.cells #[.func (.func 79) #[] #[.pointer (some ⟨w2.heap.size,0,none⟩),.pointer (some ⟨w2.heap.size + 1,0,none⟩)]] 79)):=(((Fr.refl _ _).alloc _).alloc _).alloc _
 have hel:=HE2.out.lt
 have hew:=HEW.out
 have hfs:=HF2.out.size
 have hsz : (((w2.alloc (.cells #[.slice (some ⟨e,0,none⟩) E.length cap] 22)).alloc (.cells #[.func (.func 81) #[] #[.pointer (some ⟨w2.heap.size + 1 + 1,0,none⟩)]] 57)).alloc (.cells #[.func (.func 79) #[] #[.pointer (some ⟨w2.heap.size,0,none⟩),.pointer (some ⟨w2.heap.size + 1,0,none⟩)]] 79)).heap.size = w2.heap.size + 3:=by simp
 refine ⟨e,cap,w2.heap.size,w2.heap.size + 1,w2.heap.size + 1 + 1,rfl,⟨hew,hfs,by omega,by omega⟩,⟨Nat.le_refl _,fun _ _ => rfl,fun k hk => by rw [hsz];omega,fun hk => by omega,⟨E,Shr.refl E,(HE2.out.keep0 hf4).base (fun k hk hl => ⟨.inl hk,by rw [hsz];omega,hf4.block k hl (by simp)⟩)⟩,by rw [hsz];omega,((Blk.new _ _ _).alloc _).alloc _,(Blk.new_at (by simp)).alloc _,Blk.new_at (by simp),⟨.inr (.inl rfl),.inr (.inr (.inl rfl)),.inr (.inr (.inr rfl))⟩⟩,HF2.out.trans hf4⟩
end Go.Proofs.Ytcdlnhfgehhkcaa
