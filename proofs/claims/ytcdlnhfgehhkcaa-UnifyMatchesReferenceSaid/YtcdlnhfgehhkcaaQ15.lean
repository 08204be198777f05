/- part of the proof -/
import Derived.Test.YtcdlnhfgehhkcaaQ14
set_option linter.unusedVariables false
set_option linter.unusedSimpArgs false
set_option linter.unusedSectionVars false
namespace Go.Proofs.Ytcdlnhfgehhkcaa
open Go.RowKit Go.Lib
open Un (kd nm ar size sizes depth unsolved element over vin)
namespace Un
def wf (s : List Ty) : Option Bool:=if (s.all fun t => unsolved t || element s.length t) = true then (depthsOf s).map fun r => r.2 && !(r.1.any fun n => decide (8 < n)) else some false
theorem vin_of_ok {n : Int} {t : Ty} (h : (unsolved t || element n t) = true) : vin n t = true:=by
 rw [Bool.or_eq_true] at h
 rcases h with h | h
 ·exact vin_of_unsolved n t h
 ·unfold element at h
  rw [Bool.and_eq_true] at h
  exact vin_of_over n t h.2
end Un
theorem IntsB.intsV {w : World} {g : Nat} {l : List Int} (h : IntsB w g l) (hl : l.length ≤ 1000) : IntsV w (fun _ => True) l (.slice (some ⟨g,0,none⟩) l.length l.length):=by
 unfold IntsV
 rcases Nat.eq_zero_or_pos l.length with h0 | h0
 ·have:=List.eq_nil_of_length_eq_zero h0
  subst this
  exact InN.slNil _ _
 ·rw [InN]
  refine ⟨_,_,rfl,.inr ⟨g,0,l.length,l.map (Value.int .i64),rfl,h0,Nat.le_refl _,by unfold maxLen;omega,trivial,h.lt,by simp,fun j hj => ?_,inn_ints l⟩,InN.mk_nil _ _⟩
  rw [Nat.zero_add]
  rw [show w.cell? ⟨g,j,none⟩ = ((l.map (Value.int .i64)).toArray)[j]? from Blk.cell h j]
  simp
set_option maxRecDepth 100000 in
set_option maxHeartbeats 1600000 in
theorem wf_any (N : Nat → Prop) (s : List Ty) (v : Value) (w : World) (hv : TysV w N s v) (hl : s.length ≤ 1000) (hs : ∀ t ∈ s,size t ≤ 90000) (b : Bool) (hb : Un.wf s = some b) :
  Calls Try.prog 39 #[v] w (LookP b w):=by
 have HV:=hid hv
 have HS:=hid hs
 have HB:=hid hb
 obtain ⟨ps,cp,rfl⟩:=hv.shape
 clear hv hs hb
 go_enter Try.func39,Try.ntmps39
 go_wp2_with fail
 go_loopw [9] (fun x wr => ∃ i : Nat,x = .int .i64 i ∧ i ≤ s.length ∧ Hid (Fr [] w wr) ∧ Hid (∀ j,j < i → ∀ t,s[j]? = some t → (unsolved t || element s.length t) = true)) (fun x _ => s.length - (RowKit.intOf x).toNat)
 case atStart => exact ⟨0,rfl,Nat.zero_le _,hid (Fr.refl _ _),hid (fun j hj => by omega)⟩
 case round =>
  obtain ⟨i,rfl,hi,HF,HG⟩:=hrel
  by_cases hlt : i < s.length
  ·have hd2 : decide ((i : Int) < (s.length : Int)) = true:=by simp;omega
   have hd3 : decide (i < s.length) = true:=by simpa using hlt
   obtain ⟨bb,o,rfl,hat⟩ : ∃ bb o,ps = some ⟨bb,o,none⟩ ∧ TysAt w N s bb o:=by
    rcases HV.out.cases with ⟨rfl,_⟩ | ⟨_,bb,o,cap,heq,_,_,hat⟩
    ·simp at hlt
    ·simp only [Value.slice.injEq] at heq
     exact ⟨bb,o,heq.1,hat⟩
   obtain ⟨p1,c1,k1,hb',g0,g1,g2⟩:=hat.el HF.out (by simp) (List.getElem?_eq_getElem hlt)
   obtain ⟨t,ht⟩ : ∃ t,t = s[i]:=⟨_,rfl⟩
   have HST : Hid (s[i]? = some t):=hid (by rw [ht];exact List.getElem?_eq_getElem hlt)
   rw [← ht] at g0 g1 g2 k1
   have K1:=hid k1
   clear k1 hat ht
   go_wp2_with fail
   obtain ⟨w1,hw1⟩ : ∃ w1,w1 = wr.alloc (.cells #[.int .i64 (kd t),.int .i64 (nm t),.slice p1 (ar t).length c1] 24):=⟨_,rfl⟩
   have HF0 : Hid (Fr [] wr w1):=hid (by rw [hw1];exact (Fr.refl _ _).alloc _)
   have HB0 : Hid (Blk w1 wr.heap.size 24 #[.int .i64 (kd t),.int .i64 (nm t),.slice p1 (ar t).length c1]):=hid (by rw [hw1];exact Blk.new _ _ _)
   rw [← hw1]
   clear hw1 g0 g1 g2
   refine (isunsolved_any t _ w1 N (K1.out.keep0 HF0.out)).mono ?_
   rintro e w2 ⟨rfl,hf2⟩
   have HF2:=hid (HF0.out.trans hf2)
   have HB2:=hid (HB0.out.keep hf2 (by simp))
   clear hf2
   cases e1 : unsolved t with
   | true =>
    have HE:=hid e1
    clear e1
    go_wp2_with fail
    go_roundw
    case rel => exact ⟨i + 1,by go_num,by omega,hid (HF.out.trans HF2.out),hid (fun j hj u hu => by
     by_cases hj' : j < i
     ·exact HG.out j hj' u hu
     ·obtain rfl : j = i:=by omega
      rw [HST.out] at hu
      cases hu
      rw [HE.out];rfl)⟩
    case measure => simp [RowKit.intOf];omega
   | false =>
    have HE:=hid e1
    have c0 : w2.cell? ⟨wr.heap.size,0,none⟩ = some (.int .i64 (kd t)):=HB2.out.cell 0
    have c1' : w2.cell? ⟨wr.heap.size,1,none⟩ = some (.int .i64 (nm t)):=HB2.out.cell 1
    have c2 : w2.cell? ⟨wr.heap.size,2,none⟩ = some (.slice p1 (ar t).length c1):=HB2.out.cell 2
    have cl : wr.heap.size < w2.heap.size:=HB2.out.lt
    clear e1
    go_wp2_with fail
    refine (element_any N s (by omega) (some ⟨bb,o,none⟩) cp t _ w2 (K1.out.keep0 HF2.out)).mono ?_
    rintro e w3 ⟨rfl,hf3⟩
    have HF3:=hid (HF.out.trans (HF2.out.trans hf3))
    clear hf3 c0 c1' c2 cl
    cases e2 : element s.length t with
    | true =>
     have HE2:=hid e2
     clear e2
     go_wp2_with fail
     go_roundw
     case rel => exact ⟨i + 1,by go_num,by omega,HF3,hid (fun j hj u hu => by
      by_cases hj' : j < i
      ·exact HG.out j hj' u hu
      ·obtain rfl : j = i:=by omega
       rw [HST.out] at hu
       cases hu
       rw [HE2.out];simp)⟩
     case measure => simp [RowKit.intOf];omega
    | false =>
     have hbf : b = false:=by
      have h1:=HB.out
      unfold Un.wf at h1
      rw [if_neg (by
       rw [List.all_eq_true]
       intro h
       have:=h t (List.mem_of_getElem? HST.out)
       rw [HE.out,e2] at this
       cases this)] at h1
      exact (Option.some.inj h1).symm
     clear e2
     subst hbf
     go_wp2_with fail
     go_ret
     exact ⟨rfl,HF3.out⟩
  ·have hd2 : decide ((i : Int) < (s.length : Int)) = false:=by simp;omega
   have hd3 : decide (i < s.length) = false:=by simpa using hlt
   have hall : ∀ t ∈ s,(unsolved t || element s.length t) = true:=fun t ht => by
    obtain ⟨j,hj,rfl⟩:=List.getElem_of_mem ht
    exact HG.out j (by omega) _ (List.getElem?_eq_getElem hj)
   obtain ⟨r,hr,hbr⟩ : ∃ r,Un.depthsOf s = some r ∧ b = (r.2 && !(r.1.any fun n => decide (8 < n))):=by
    have h1:=HB.out
    unfold Un.wf at h1
    rw [if_pos (by rw [List.all_eq_true];exact hall)] at h1
    obtain ⟨r,h2,h3⟩:=Option.map_eq_some_iff.1 h1
    exact ⟨r,h2,h3.symm⟩
   have HR:=hid hr
   have HALL:=hid hall
   have HBR:=hid hbr
   clear hall hr hbr HG
   go_wp2_with fail
   refine (depthsof_any N s _ wr (HV.out.keep0 HF.out) hl HS.out (fun t ht => Un.vin_of_ok (HALL.out t ht)) r HR.out).mono ?_
   rintro e w2 ⟨g,rfl,hf2,hlen,hg,hI⟩
   have HF2:=hid (HF.out.trans hf2)
   have hI2:=hI.intsV (by omega)
   rw [hlen] at hI2
   have HI:=hid hI2
   have HG:=hid hg
   clear hf2 hI hI2 hlen hg
   obtain ⟨r1,r2⟩:=r
   cases r2 with
   | false =>
    have HE : Hid (b = false):=hid (by rw [HBR.out];rfl)
    go_wp2_with fail
    go_ret
    exact ⟨by rw [HE.out];rfl,HF2.out⟩
   | true =>
    have HE : Hid (b = !(r1.any fun n => decide (8 < n))):=hid (by rw [HBR.out];rfl)
    go_wp2_with fail
    refine (containsdeep_any r1 _ w2 _ HI.out).mono ?_
    rintro e w3 ⟨rfl,hf3⟩
    have HF3:=hid (HF2.out.trans hf3)
    clear hf3
    go_wp2_with fail
    go_ret
    exact ⟨by rw [HE.out];simp,HF3.out⟩
open Go.RowKit Go.Lib
open Un (kd nm ar size sizes)
theorem run_append_full (w : World) (ty : Nat) (N : Nat → Prop) (l : List Ty) (t : Ty) (b o : Nat) (hat : TysAt w N l b o) (hl : l.length ≤ 100000) (ad : Addr) (c : Nat) (d0 d1 d2 : Value)
  (hc : ∀ j u,[d0,d1,d2][j]? = some u → w.cell? (ad.add j) = some u) (ht : TyV w (fun _ => True) t [d0,d1,d2]) :
  ∃ p k w',(Builtin.append_ #[22,22] ty #[.slice (some ⟨b,o,none⟩) l.length l.length,.slice (some ad) 1 c]).run Try.prog w = .ok (.slice p (l.length + 1) k) w' ∧ TysV w' (fun _ => True) (l ++ [t]) (.slice p (l.length + 1) k) ∧ Fr [] w w':=by
 obtain ⟨hN,hb,xs,hxs,hq⟩:=hat
 have hxl : xs.length = l.length * 3:=by rw [hq.len,rowsQ_ln ln_qTy]
 obtain ⟨j0,hj0,jz0,jz1,jz2⟩:=info_parts info_ty
 obtain ⟨v',w',hr,h2,h3⟩:=run_append_arg_grows (P:=Try.prog) w 22 ty 24 j0 _ 3 40 Try.underlying22 hj0 jz0 jz1 jz2 rfl (by decide) ⟨b,o,none⟩ l.length l.length xs hxl
  (fun j u hj => by rw [addr_add,hxs j (by have:=(List.getElem?_eq_some_iff.1 hj).1;omega),hj]) ad 1 c [d0,d1,d2] rfl hc (by omega) (by unfold maxLen;omega) (by omega)
 have hf : Fr [] w w':=⟨h3.os,h3.tape,h3.output,h3.size,fun k hk _ => h3.block k hk (by simp)⟩
 have hO : OwnL w' (fun k => k < w.heap.size) w.heap.size 24 3 (l.length + 1) ((rowsQ qTy l).app (qTy t)) v':=by
  have hn : ∀ k,k < w.heap.size → some k ≠ v'.ownBlock:=fun k hk e => by
   rcases h2.2 with ⟨rfl,_⟩ | ⟨g',_,_,rfl,hb',_⟩
   ·simp [Value.ownBlock] at e
   ·simp [Value.ownBlock] at e;omega
  exact ⟨_,h2,InN.app (hq.mono fun k _ hlt => ⟨⟨hlt,hn k hlt⟩,Nat.lt_of_lt_of_le hlt hf.size,hf.block k hlt (by simp)⟩) (InN.mono (fun k _ hlt => ⟨⟨hlt,hn k hlt⟩,Nat.lt_of_lt_of_le hlt hf.size,hf.block k hlt (by simp)⟩) ht)⟩
 obtain ⟨p,k,rfl⟩:=hO.shape
 refine ⟨p,k,w',hr,?_,hf⟩
 have h4:=hO.inn2 (N':=fun _ => True) (fun _ _ _ => trivial) (fun _ _ => trivial)
 unfold TysV
 rw [List.length_append,List.length_singleton,rowsQ_snoc]
 exact h4
theorem step_append_full (w : World) {ops : Array Oper} {o : Oper} {a : Act} {K : Act → World → Prop} {QQ : Exit → Act → World → Prop} {E : Prop} (hgd : o.guard = none) (s x : Operand)
  (hop : o.op = Op.call { callee:=Callee.builtin Builtin.append,args:=#[s,x],argTypes:=#[22,22] })
  (N : Nat → Prop) (l : List Ty) (t : Ty) (b off : Nat) (hs : a.eval s = .slice (some ⟨b,off,none⟩) l.length l.length) (hat : TysAt w N l b off) (hl : l.length ≤ 100000) (ad : Addr) (c : Nat) (d0 d1 d2 : Value) (hx : a.eval x = .slice (some ad) 1 c)
  (hc : ∀ j u,[d0,d1,d2][j]? = some u → w.cell? (ad.add j) = some u) (ht : TyV w (fun _ => True) t [d0,d1,d2])
  (hK : ∀ p k w',TysV w' (fun _ => True) (l ++ [t]) (.slice p (l.length + 1) k) → Fr [] w w' → K (a.put o.dst (.slice p (l.length + 1) k)) w') :
  if Region.wanted o (yielded ops a.tmps) = true then Oper.wp Try.prog o a w K QQ else E:=by
 have hw : Region.wanted o (yielded ops a.tmps) = true:=by simp [Region.wanted,hgd]
 rw [if_pos hw]
 obtain ⟨p,k,w',hr,r1,r2⟩:=run_append_full w o.type N l t b off hat hl ad c d0 d1 d2 hc ht
 unfold Oper.wp execOp
 simp only [hop,resolve,invoke,builtin,Sem.run_bind,Sem.run_pure,Result.andThen_ok,List.map_toArray,List.map_cons,List.map_nil,hs,hx,hr]
 exact hK p k w' r1 r2
def CloneN (N : Nat → Prop) (E : List Ty) (w : World) (e : Ending) (w' : World) : Prop:=∃ v,e = .returned v ∧ TysV w' (fun k => N k ∨ w.heap.size ≤ k) E v ∧ Fr [] w w'
set_option maxRecDepth 100000 in
set_option maxHeartbeats 1600000 in
theorem clone_apart (N : Nat → Prop) (E : List Ty) (v : Value) (w : World) (hv : TysV w N E v) (h0 : 0 < E.length) (hl : E.length ≤ 100000) : Calls Try.prog 78 #[v] w (CloneN N E w):=by
 rcases hv.cases with ⟨rfl,_⟩ | ⟨_,b,o,cap,rfl,hc,hm,hat⟩
 ·simp at h0
 unfold maxLen at hm
 obtain ⟨_,hb,xs,hxs,hq⟩:=hat
 have hxl : xs.length = E.length * 3:=by rw [hq.len,rowsQ_ln ln_qTy]
 obtain ⟨j0,hj0,jz0,jz1,jz2⟩:=info_parts info_ty
 have HJ0:=hid hj0
 have HJZ0:=hid jz0
 have HJZ1:=hid jz1
 have HJZ2:=hid jz2
 obtain ⟨w1,hw1⟩ : ∃ w1,w1 = w.alloc (.cells #[] 24):=⟨_,rfl⟩
 have HF1 : Hid (Fr [] w w1):=hid (by rw [hw1];exact (Fr.refl _ _).alloc _)
 obtain ⟨M,hM⟩ : ∃ M : Nat → Prop,M = fun k => k < w.heap.size ∧ N k:=⟨_,rfl⟩
 have HM:=hid hM
 have HO1 : Hid (OwnL w1 M w.heap.size 24 3 0 .nil (.slice (some ⟨w.heap.size,0,none⟩) 0 0)):=hid (OwnL.empty _ (Nat.le_refl _) (by rw [hw1];exact Blk.new _ _ _))
 have HC : Hid (∀ j u,xs[j]? = some u → w1.cell? ((⟨b,o,none⟩ : Addr).add j) = some u):=hid (fun j u hj => by
  rw [addr_add,HF1.out.cell hb (by simp),hxs j (by have:=(List.getElem?_eq_some_iff.1 hj).1;omega),hj])
 have HQ : Hid (InN w1 (fun k => M k ∧ some k ≠ (Value.slice (some ⟨w.heap.size,0,none⟩) 0 0).ownBlock) (rowsQ qTy E) xs):=hid (hq.mono (fun k hN hk => ⟨⟨by rw [hM];exact ⟨hk,hN⟩,by simp [Value.ownBlock];omega⟩,Nat.lt_of_lt_of_le hk HF1.out.size,HF1.out.block k hk (by simp)⟩))
 have HZ : Hid (w.heap.size ≤ w1.heap.size):=hid HF1.out.size
 have HXL:=hid hxl
 have q22 : ∀ (w : World) (a : Option Addr) (n c n' c' : Nat),(binOp .eql 22 (.slice a n c) (.slice none n' c')).run Try.prog w = .ok (.bool a.isNone) w:=fun w a n c n' c' => Lib.run_eql_slice_nil w _ _ a n c n' c' Try.underlying22
 clear hv hxs hq hxl hj0 jz0 jz1 jz2 hM
 go_enter Try.func78,Try.ntmps78
 go_wp2_with (at_builtin;go_loud (rw [← hw1];refine wpList_append_ownl _ rfl _ _ 22 rfl M w.heap.size 24 j0 _ 3 40 Try.underlying22 HJ0.out HJZ0.out HJZ1.out HJZ2.out rfl (by decide) _ 0 E.length .nil (rowsQ qTy E) rfl HO1.out ⟨b,o,none⟩ cap xs rfl HXL.out HC.out HQ.out (by omega) (by decide) HZ.out ?_;intro v' w2 hL2 hg2 hv2;have HL2:=hid hL2;have HG2:=hid hg2;clear hL2 hg2 hv2))
 go_ret
 have hL2:=HL2.out
 rw [Nat.zero_add] at hL2
 exact ⟨_,rfl,hL2.inn2 (fun k _ h => .inl (by rw [HM.out] at h;exact h.2)) (fun g hg => .inr (hL2.own g hg).1),HF1.out.grown HG2.out (fun k hk => .inr (by cases hk;exact Nat.le_refl _))⟩
def ApplN (N : Nat → Prop) (E : List Ty) (w : World) (e : Ending) (w' : World) : Prop:=∃ pE pA pF v,e = .returned (.func (.func 81) #[] #[.pointer (some ⟨pF,0,none⟩)]) ∧ AppV w' E v pE pA pF ∧ TysV w' (fun k => N k ∨ w.heap.size ≤ k) E v ∧ Fr [] w w'
set_option maxHeartbeats 1600000 in
theorem application_apart (N : Nat → Prop) (E : List Ty) (v : Value) (w : World) (hv : TysV w N E v) (h0 : 0 < E.length) (hl : E.length ≤ 100000) : Calls Try.prog 55 #[v] w (ApplN N E w):=by
 have HV:=hid hv
 have hmf1:=run_makeApp1
 have hmf2:=run_makeApp2
 obtain ⟨p,c,rfl⟩:=hv.shape
 clear hv
 go_enter Try.func55,Try.ntmps55
 go_wp2_with fail
 refine (clone_apart N E _ w HV.out h0 hl).mono ?_
 rintro e w2 ⟨v2,rfl,hv2,hf2⟩
 obtain ⟨p2,c2,rfl⟩:=hv2.shape
 have HV2:=hid hv2
 have HF2:=hid hf2
 clear hv2 hf2
 go_wp2_with fail
 go_ret
 have hf4 : Fr [] w2 (((w2.alloc (.cells #[.slice p2 E.length c2] 22)).alloc (.cells #[.func (.func 81) #[] #[.pointer (some ⟨w2.heap.size + 1 + 1,0,none⟩)]] 57)).alloc (.cells #[.func (.func 79) #[] #[.pointer (some ⟨w2.heap.size,0,none⟩),.pointer (some ⟨w2.heap.size + 1,0,none⟩)]] 79)):=(((Fr.refl _ _).alloc _).alloc _).alloc _
 have hv4:=HV2.out.keep0 hf4
 exact ⟨_,_,_,_,rfl,⟨((Blk.new _ _ _).alloc _).alloc _,(Blk.new_at (by simp)).alloc _,Blk.new_at (by simp),hv4.weak (fun _ _ _ => trivial)⟩,hv4,HF2.out.trans hf4⟩
end Go.Proofs.Ytcdlnhfgehhkcaa
