/- part of the proof -/
import Derived.Test.YtcdlnhfgehhkcaaQ21
import Derived.Test.YtcdlnhfgehhkcaaQ19
set_option linter.unusedVariables false
set_option linter.unusedSimpArgs false
set_option linter.unusedSectionVars false
namespace Go.Proofs.Ytcdlnhfgehhkcaa
open Go.RowKit Go.Lib
open Un (kd nm ar size sizes unsolved)
namespace Un
theorem speaker_core : ∀ {f : Nat} {ts ts' : List Tm} {i r : Int},speaker f ts i = some (ts',r) → core ts' = core ts
 | 0,_,_,_,_,h => by simp [speaker] at h
 | f + 1,ts,ts',i,r,h => by
  rw [speaker] at h
  cases h1 : tm? ts i with
  | none => simp [h1] at h
  | some a =>
   rw [h1] at h
   simp only at h
   split at h
   ·simp only [Option.some.injEq,Prod.mk.injEq] at h
    obtain ⟨rfl,_⟩:=h
    rfl
   ·cases h2 : tm? ts a.next with
    | none => simp [h2] at h
    | some c =>
     rw [h2] at h
     exact (speaker_core h).trans (setNext_core _ _ _)
theorem joinG_core {fs : Nat} {n : Int} : ∀ {f : Nat} {ts ts' : List Tm} {ps : List (Int × Int)},joinG fs f n ts ps = some (some ts') → core ts' = core ts
 | 0,ts,ts',ps,h => by simp [joinG] at h
 | f + 1,ts,ts',ps,h => by
  rcases List.eq_nil_or_concat ps with rfl | ⟨qs,⟨x,y⟩,rfl⟩
  ·rw [joinG_nil] at h
   simp only [Option.some.injEq] at h
   rw [h]
  ·rw [List.concat_eq_append] at h
   obtain ⟨t1,a,t2,b,h1,h2,hcase⟩:=joinG_step h
   have hc:=(speaker_core h2).trans (speaker_core h1)
   rcases hcase with ⟨_,hj⟩ | ⟨_,_,hj⟩ | ⟨_,_,_,hj⟩ | ⟨_,_,_,p,q,_,_,⟨_,hj⟩ | ⟨_,hj⟩⟩
   ·exact (joinG_core hj).trans hc
   ·exact (joinG_core hj).trans ((setNext_core _ _ _).trans hc)
   ·exact (joinG_core hj).trans ((setNext_core _ _ _).trans hc)
   ·exact (joinG_core hj).trans ((setNext_core _ _ _).trans hc)
   ·cases hj
theorem add_args (A : Nat) : ∀ (t : Ty) (ts : List Tm),size t ≤ A → (∀ a ∈ ts,a.args.length ≤ A) → ∀ a ∈ (add ts t).1,a.args.length ≤ A:=by
 refine Ty.ind fun k i al ih => ?_
 intro ts hs hA
 have hlen : al.length < size (Ty.mk k i al):=len_lt
 have hlt : ∀ a ∈ al,size a < size (Ty.mk k i al):=fun a ha => size_lt ha
 rw [add]
 split
 ·exact hA
 ·have key : ∀ (l : List Ty),(∀ a ∈ l,a ∈ al) → ∀ ts,(∀ a ∈ ts,a.args.length ≤ A) → ∀ a ∈ (adds ts l).1,a.args.length ≤ A:=by
   intro l
   induction l with
   | nil => intro _ ts hA;rw [adds];exact hA
   | cons b r ihr =>
    intro hm ts hA
    rw [adds]
    have:=hlt b (hm b (by simp))
    exact ihr (fun c hc => hm c (by simp [hc])) _ (ih b (hm b (by simp)) ts (by omega) hA)
  intro a ha
  rcases List.mem_append.1 ha with h | h
  ·exact key al (fun a h => h) ts hA a h
  ·rw [List.mem_singleton] at h
   subst h
   simp only
   rw [adds_len2]
   omega
theorem newS_none {fs f : Nat} {n : Int} {i : Nat} {t : Ty} {l : List Ty} {ts r : List Tm} (h : newS fs f n i (t :: l) ts = some (some r)) : (unsolved t = true ∧ newS fs f n (i + 1) l ts = some (some r)) ∨ (unsolved t = false ∧ ∃ ts',joinG fs f n (add ts t).1 [((i : Int),(add ts t).2)] = some (some ts') ∧ newS fs f n (i + 1) l ts' = some (some r)):=by
 rw [newS] at h
 by_cases hu : unsolved t = true
 ·rw [if_pos hu] at h;exact .inl ⟨hu,h⟩
 ·rw [if_neg hu] at h
  refine .inr ⟨by simpa using hu,?_⟩
  cases h1 : joinG fs f n (add ts t).1 [((i : Int),(add ts t).2)] with
  | none => rw [h1] at h;cases h
  | some o =>
   rw [h1] at h
   cases o with
   | none => simp at h
   | some ts' => exact ⟨ts',rfl,h⟩
end Un
def NewSolG (n : Nat) (ts : List Tm) (w : World) (e : Ending) (w' : World) : Prop:=e = .returned (.pointer (some ⟨w.heap.size,0,none⟩)) ∧ Fr [] w w' ∧ ∃ tv,SolV w' (fun _ => True) w.heap.size n ts tv
theorem SolFr.out {w wr w' : World} {b : Nat} {tv tv' : Value} (h : SolFr b tv tv' wr w') (hf : Fr [] w wr) (hb : w.heap.size ≤ b) (ho : ∀ g,tv.ownBlock = some g → w.heap.size ≤ g) : Fr [] w w':=
 ((hf.nil (b :: tv.ownBlock.toList)).trans (h.fr (X:=b :: tv.ownBlock.toList) (by simp) (fun k hk => by simp [hk]))).sub (fun k hk => by
  rcases List.mem_cons.1 hk with rfl | hk
  ·exact .inr hb
  ·exact .inr (ho k (by simpa using hk)))
set_option maxRecDepth 100000 in
set_option maxHeartbeats 3200000 in
theorem newsolverG_any (N : Nat → Prop) (s : List Ty) (v : Value) (w : World) (h : TysV w N s v) (A fs f : Nat) (hA : A ≤ 100000) (hf : f * A ≤ 800000) (r : List Tm) (hr : Un.newS fs f s.length 0 s (Un.fresh s.length) = some (some r)) (hs : ∀ t ∈ s,size t ≤ A) (hsz : s.length + sizes s ≤ 100000) (hl : s.length ≤ 1000) : Calls Try.prog 66 #[v] w (NewSolG s.length r w):=by
 obtain ⟨ps,cs,rfl⟩:=h.shape
 have HV:=hid h
 have HZ:=hid hs
 have HR:=hid hr
 obtain ⟨n,hn⟩ : ∃ n,n = s.length:=⟨_,rfl⟩
 have HN:=hid hn
 rw [← hn] at hl HV HR hsz ⊢
 obtain ⟨w1,hw1⟩ : ∃ w1,w1 = w.alloc (.cells #[.int .i64 n,.slice none 0 0] 107):=⟨_,rfl⟩
 have HF0 : Hid (Fr [] w w1):=hid (by rw [hw1];exact (Fr.refl _ _).alloc _)
 have HB0 : Hid (Blk w1 w.heap.size 107 #[.int .i64 n,.slice none 0 0]):=hid (by rw [hw1];exact Blk.new _ _ _)
 obtain ⟨j0,hj0,jz0,jz1,jz2⟩:=info_parts info_term
 have HJ0:=hid hj0
 clear h hs hn hj0 hr
 go_enter Try.func66,Try.ntmps66
 go_wp2_with fail
 rw [← hw1]
 clear hw1
 go_loopw [13] (fun x wr => ∃ (i : Nat) (tv : Value),x = .int .i64 i ∧ i ≤ n ∧ Hid (Fr [] w wr) ∧ Hid (SolV wr (fun _ => True) w.heap.size n (Un.fresh i) tv)) (fun x _ => n - (RowKit.intOf x).toNat)
 case atStart => exact ⟨0,.slice none 0 0,rfl,Nat.zero_le _,HF0,hid ⟨HB0.out,OwnL.nil _ _ _ _ _⟩⟩
 case round =>
  obtain ⟨i,tv,rfl,hi,HFR,HS⟩:=hrel
  obtain ⟨pt,ct,rfl⟩:=HS.out.shape
  rw [Un.fresh_len] at HS
  by_cases hlt : i < n
  ·have hd2 : decide ((i : Int) < (n : Int)) = true:=by simp;omega
   have hd3 : decide (i < n) = true:=by simpa using hlt
   have s1 : wr.cell? ⟨w.heap.size,1,none⟩ = some (.slice pt i ct):=HS.out.blk.cell 1
   have sl : w.heap.size < wr.heap.size:=HS.out.blk.lt
   have s1d : wr.drew.cell? ⟨w.heap.size,1,none⟩ = some (.slice pt i ct):=s1
   go_wp2_with fail
   go_region_law (first | (refine step_append_ownl _ (by rfl) _ _ 105 (by rfl) (fun k => k ≠ w.heap.size ∧ True) (w.heap.size + 1) 109 j0 _ 5 72 Try.underlying105 HJ0.out jz0 jz1 jz2 rfl (by decide) (.slice pt i ct) i 1 (rowsQ qTm (Un.fresh i)) (qTm ⟨Un.var i,[],i⟩) (by rfl) G1.out ⟨w2.heap.size,0,none⟩ 1 [.int .i64 9,.int .i64 i,.slice none 0 0,.slice none 0 0,.int .i64 i] (by rfl) rfl G2.out G3.out (by omega) (by decide) g4 ?_;intro p' c' w4 hL4 hg4 hv4;have hD4:=hid ((HS2.out.blk.alloc (.cells #[.int .i64 9,.int .i64 i,.slice none 0 0,.slice none 0 0,.int .i64 i] 109)).keep (X:=(Value.slice pt i ct).ownBlock.toList) ⟨hg4.os,hg4.tape,hg4.output,hg4.size,fun k hk hx => hg4.block k hk (fun e => hx (by simp [← e]))⟩ (fun hx => by have h1:=(HS2.out.l.own w.heap.size (by simpa using hx)).1;omega));have hk4 : w4.cell? ⟨w.heap.size,1,none⟩ = some (.slice pt i ct):=hD4.out.cell 1;have hf4 : w4.frozen? ⟨w.heap.size,1,none⟩ = false:=hD4.out.frozen 1;have HL4:=hid hL4;have HG4:=hid hg4;clear hL4 hg4 hv4) | (go_simp;go_at_call 87;refine (variable_any _ _).mono ?_;rintro e w2 ⟨rfl,hf2⟩;have HF2 : Hid (Fr [] wr w2):=hid ((Fr.refl [] wr).drew.trans hf2);have HS2:=hid (HS.out.keep0 HF2.out);have s2 : w2.cell? ⟨w.heap.size,1,none⟩ = some (.slice pt i ct):=HS2.out.blk.cell 1;have sl2 : w.heap.size < w2.heap.size:=HS2.out.blk.lt;obtain ⟨g1,g2,g3,g4⟩:=ownl_ready2 (news:=[.int .i64 9,.int .i64 i,.slice none 0 0,.slice none 0 0,.int .i64 i]) (qb:=qTm ⟨Un.var i,[],i⟩) (by have:=HS2.out.l;rw [Un.fresh_len] at this;exact this) (by omega) (TmV.mk (x:=⟨Un.var i,[],i⟩) (TyV.mk (TysV.nil none 0)) (InN.slNil none 0)) 109;have G1:=hid g1;have G2:=hid g2;have G3:=hid g3;clear g1 g2 g3 hf2))
   all_goals
    have hSW : SolV (w4.setCell ⟨w.heap.size,1,none⟩ (.slice p' (i + 1) c')) (fun _ => True) w.heap.size n (Un.fresh (i + 1)) (.slice p' (i + 1) c'):=
     ⟨hD4.out.set 1 _,by rw [Un.fresh_len,Un.fresh,rowsQ_snoc];exact HL4.out.keep (X:=[w.heap.size]) ((Fr.refl [w.heap.size] _).setCell (.inl (by simp)) _) (by simp)⟩
    have hFW : Fr [] w (w4.setCell ⟨w.heap.size,1,none⟩ (.slice p' (i + 1) c')):=
     ((((HFR.out.trans HF2.out).alloc (.cells #[.int .i64 9,.int .i64 i,.slice none 0 0,.slice none 0 0,.int .i64 i] 109)).grown HG4.out (fun k hk => .inr (by have:=(G1.out.own k hk).1;omega)))).setCell (.inr (Nat.le_refl _)) _
    have HSW:=hid hSW
    have HFW:=hid hFW
    clear hSW hFW hk4 hf4 s1 sl s1d s2 sl2 g4
    go_wp2_with fail
    go_roundw
    case rel => exact ⟨i + 1,_,by go_num,by omega,HFW,HSW⟩
    case measure => simp [RowKit.intOf];omega
  ·have hd2 : decide ((i : Int) < (n : Int)) = false:=by simp;omega
   have hd3 : decide (i < n) = false:=by simpa using hlt
   obtain rfl : i = n:=by omega
   go_wp2_with fail
   obtain ⟨wo,hwo⟩ : ∃ wo : World,wo = wr:=⟨_,rfl⟩
   subst hwo
   go_loopw [32] (fun x wr2 => ∃ (j : Nat) (ts : List Tm) (tv2 : Value),x = .int .i64 j ∧ j ≤ i ∧ Hid (Fr [] w wr2) ∧ Hid (SolV wr2 (fun _ => True) w.heap.size i ts tv2) ∧ Hid (Un.newS fs f i j (s.drop j) ts = some (some r)) ∧ Hid (∀ a ∈ ts,a.args.length ≤ A) ∧ Hid (ts.length + sizes (s.drop j) ≤ 100000)) (fun x _ => i - (RowKit.intOf x).toNat)
   case atStart => exact ⟨0,Un.fresh i,_,rfl,Nat.zero_le _,HFR,HS,HR,hid (Un.fresh_args i A),hid (by rw [Un.fresh_len];exact hsz)⟩
   case round =>
    obtain ⟨j,ts,tv2,rfl,hj,HF3,HS3,HQ,HAL,HSL⟩:=hrel
    obtain ⟨pt2,ct2,rfl⟩:=HS3.out.shape
    by_cases hlt2 : j < i
    ·have hd4 : decide ((j : Int) < (i : Int)) = true:=by simp;omega
     have hd5 : decide (j < i) = true:=by simpa using hlt2
     have hjs : j < s.length:=by have:=HN.out;omega
     obtain ⟨bb,o,rfl,hat⟩ : ∃ bb o,ps = some ⟨bb,o,none⟩ ∧ TysAt w N s bb o:=by
      have h0:=HV.out
      rw [HN.out] at h0
      rcases h0.cases with ⟨rfl,_⟩ | ⟨_,bb,o,cap,heq,_,_,hat⟩
      ·simp at hjs
      ·simp only [Value.slice.injEq] at heq
       exact ⟨bb,o,heq.1,hat⟩
     obtain ⟨t,ht⟩ : ∃ t,s[j]? = some t:=⟨_,List.getElem?_eq_getElem hjs⟩
     obtain ⟨p1,c1,k1,hb,g0,g1,g2⟩:=hat.el HF3.out (by simp) ht
     have hdr : s.drop j = t :: s.drop (j + 1):=by
      rw [List.drop_eq_getElem_cons hjs]
      rw [List.getElem?_eq_getElem hjs] at ht
      cases ht;rfl
     have hq:=HQ.out
     rw [hdr] at hq
     have hsl:=HSL.out
     rw [hdr,sizes] at hsl
     have hta : size t ≤ A:=HZ.out t (List.mem_of_getElem? ht)
     obtain ⟨p2,c2,k2,hb2,_,_,e2⟩:=hat.el (Fr.refl [] w) (by simp) ht
     have e3:=g2
     rw [HF3.out.cell hb2 (by simp),e2] at e3
     simp only [Option.some.injEq,Value.slice.injEq,true_and] at e3
     obtain ⟨rfl,rfl⟩:=e3
     have K1:=hid k1
     have K2 : Hid (TyV w (fun k => k < w.heap.size) t [.int .i64 (kd t),.int .i64 (nm t),.slice p2 (ar t).length c2]):=hid (TyV.weak k2 (fun k hk _ => hk))
     clear e2 hb2
     have HQ2:=hid (Un.newS_none hq)
     have HSL2:=hid hsl
     have HTA:=hid hta
     clear k1 k2 hat ht hdr hq hsl hta
     go_wp2_with fail
     obtain ⟨w4,hw4⟩ : ∃ w4,w4 = wr.alloc (.cells #[.int .i64 (kd t),.int .i64 (nm t),.slice p2 (ar t).length c2] 24):=⟨_,rfl⟩
     have hf0 : Fr [] wr w4:=by rw [hw4];exact (Fr.refl _ _).alloc _
     have HB4 : Hid (Blk w4 wr.heap.size 24 #[.int .i64 (kd t),.int .i64 (nm t),.slice p2 (ar t).length c2]):=hid (by rw [hw4];exact Blk.new _ _ _)
     have HF4:=hid hf0
     rw [← hw4]
     clear hw4 hf0
     refine (isunsolved_any t _ _ N (K1.out.keep0 HF4.out)).mono ?_
     rintro e w5 ⟨rfl,hf5⟩
     have HF5:=hid (HF4.out.trans hf5)
     have HB5:=hid (HB4.out.keep hf5 (by simp))
     have HS5:=hid (HS3.out.keep0 HF5.out)
     have HFW:=hid (HF3.out.trans HF5.out)
     clear hf5 g0 g1 g2
     rcases HQ2.out with ⟨hu,hq⟩ | ⟨hu,ts',hj1,hq⟩
     ·rw [hu]
      have HQ3:=hid hq
      clear hu hq
      go_wp2_with fail
      go_roundw
      case rel => exact ⟨j + 1,ts,_,by go_num,by omega,HFW,HS5,HQ3,HAL,hid (by have:=HSL2.out;omega)⟩
      case measure => simp [RowKit.intOf];omega
     ·rw [hu]
      have HQ3:=hid hq
      have HJ:=hid hj1
      have x0 : w5.cell? ⟨wr.heap.size,0,none⟩ = some (.int .i64 (kd t)):=HB5.out.cell 0
      have x1 : w5.cell? ⟨wr.heap.size,1,none⟩ = some (.int .i64 (nm t)):=HB5.out.cell 1
      have x2 : w5.cell? ⟨wr.heap.size,2,none⟩ = some (.slice p2 (ar t).length c2):=HB5.out.cell 2
      have xl : wr.heap.size < w5.heap.size:=HB5.out.lt
      have HTY : Hid (TyV w5 (fun k => k < w.heap.size) t [.int .i64 (kd t),.int .i64 (nm t),.slice p2 (ar t).length c2]):=hid (K2.out.keep0 HFW.out)
      clear hu hq hj1
      go_wp2_with fail
      refine (add_any w.heap.size i (size t) t (Nat.le_refl _) _ ts _ _ w5 HS5.out (fun _ _ => trivial) (fun _ _ => trivial) HTY.out (by have:=HSL2.out;omega)).mono ?_
      rintro e w6 ⟨rfl,tv6,hS6,hF6⟩
      have HS6:=hid hS6
      have HO5 : Hid (∀ g,(Value.slice pt2 ts.length ct2).ownBlock = some g → w.heap.size ≤ g):=hid (fun g hg => by have:=(HS5.out.l.own g hg).1;omega)
      have HF6:=hid (hF6.out HFW.out (Nat.le_refl _) HO5.out)
      have HAL6 : Hid (∀ a ∈ (Un.add ts t).1,a.args.length ≤ A):=hid (Un.add_args A t ts HTA.out HAL.out)
      clear hS6 hF6 x0 x1 x2 xl
      go_wp2_with fail
      refine (joinG_any w.heap.size i _ A fs f _ _ _ (some ts') tv6 w6 HS6.out (fun _ _ => trivial) hA HAL6.out hf HJ.out).mono ?_
      rintro e w7 ⟨rfl,hS7,hF7⟩
      have HS7:=hid hS7
      have HF7:=hid (hF7.out HF6.out (Nat.le_refl _) (fun g hg => by have:=(HS6.out.l.own g hg).1;omega))
      have HC7:=hid (Un.joinG_core HJ.out)
      clear hS7 hF7
      go_wp2_with fail
      go_roundw
      case rel => exact ⟨j + 1,ts',tv6,by go_num,by omega,HF7,HS7,HQ3,hid (Un.core_args HC7.out HAL6.out),hid (by have h1:=Un.core_len HC7.out;have h2:=Un.add_len t ts;have:=HSL2.out;omega)⟩
      case measure => simp [RowKit.intOf];omega
    ·have hd4 : decide ((j : Int) < (i : Int)) = false:=by simp;omega
     have hd5 : decide (j < i) = false:=by simpa using hlt2
     obtain rfl : j = i:=by omega
     have hq:=HQ.out
     rw [List.drop_eq_nil_of_le (by have:=HN.out;omega),Un.newS] at hq
     simp only [Option.some.injEq] at hq
     subst hq
     go_wp2_with fail
     go_ret
     exact ⟨rfl,HF3.out,_,HS3.out⟩
end Go.Proofs.Ytcdlnhfgehhkcaa
