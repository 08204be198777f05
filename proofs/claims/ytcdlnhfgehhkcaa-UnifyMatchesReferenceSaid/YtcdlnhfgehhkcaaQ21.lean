/- part of the proof -/
import Derived.Test.YtcdlnhfgehhkcaaQ18
import Derived.Deep.DeepCutAuto
set_option linter.unusedVariables false
set_option linter.unusedSimpArgs false
set_option linter.unusedSectionVars false
namespace Go.Proofs.Ytcdlnhfgehhkcaa
open Go.RowKit Go.Lib
open Un (kd nm ar size sizes tm? setNext headOk speaker)
set_option maxRecDepth 100000 in
set_option maxHeartbeats 3200000 in
theorem joinG_any (b : Nat) (n : Int) (N : Nat → Prop) (A fs f : Nat) (ts : List Tm) (x y : Int) (r : Option (List Tm)) (tv : Value) (w : World) (hS : SolV w N b n ts tv) (hN : ∀ k,w.heap.size ≤ k → N k) (hA : A ≤ 100000) (hsz : ∀ a ∈ ts,a.args.length ≤ A) (hf : f * A ≤ 800000) (hr : Un.joinG fs f n ts [(x,y)] = some r) :
  Calls Try.prog 67 #[.pointer (some ⟨b,0,none⟩),.int .i64 x,.int .i64 y] w (JoinP N b n tv r w):=by
 have HS:=hid hS
 have HR:=hid hr
 obtain ⟨w1,hw1⟩ : ∃ w1,w1 = w.alloc (.cells #[.int .i64 x,.int .i64 y] 110):=⟨_,rfl⟩
 have HF0 : Hid (Fr [] w w1):=hid (by rw [hw1];exact (Fr.refl _ _).alloc _)
 have HB0 : Hid (Blk w1 w.heap.size 110 #[.int .i64 x,.int .i64 y]):=hid (by rw [hw1];exact Blk.new _ _ _)
 clear hS hr
 go_enter Try.func67,Try.ntmps67
 go_wp2_with fail
 rw [← hw1]
 clear hw1
 have hP0 : OwnL w1 (fun _ => False) w.heap.size 110 2 1 (rowsQ qPair [(x,y)]) (.slice (some ⟨w.heap.size,0,none⟩) 1 1):=
  ⟨[.int .i64 x,.int .i64 y],⟨rfl,.inr ⟨w.heap.size,1,#[.int .i64 x,.int .i64 y],rfl,Nat.le_refl _,HB0.out,by decide,by unfold maxLen;decide,rfl,rfl⟩⟩,by rw [rowsQ_one];exact InN.mk_int (InN.mk_int (InN.mk_nil _ _))⟩
 have HP0:=hid hP0
 have HS0 : Hid (SolV w1 (fun k => N k ∧ (Value.slice (some ⟨w.heap.size,0,none⟩) 1 1).ownBlock ≠ some k) b n ts tv):=hid ((HS.out.weak (fun k hk hx => ⟨hx,fun e => by simp [Value.ownBlock] at e;omega⟩)).keep0 HF0.out)
 have hNE0 : ∀ g,(Value.slice (some ⟨w.heap.size,0,none⟩) 1 1).ownBlock = some g → tv.ownBlock ≠ some g:=fun g hg e => by
  have h1:=(HS.out.l.own g e).2
  simp [Value.ownBlock] at hg
  omega
 have HNE0:=hid hNE0
 have HSZ:=hid hsz
 obtain ⟨i0,hi0,hz0,hz1,hz2⟩:=info_parts info_pair
 have HI0:=hid hi0
 clear hP0 hNE0 hsz hi0
 go_loopg [6] f (fun gg v wr => ∃ (ts' : List Tm) (ps : List (Int × Int)),Hid (Un.joinG fs gg n ts' ps = some r) ∧ Hid (SolV wr (fun k => N k ∧ v.ownBlock ≠ some k) b n ts' tv) ∧ Hid (SolFr b tv tv w wr) ∧ Hid (OwnL wr (fun _ => False) w.heap.size 110 2 ps.length (rowsQ qPair ps) v) ∧ Hid (∀ g,v.ownBlock = some g → tv.ownBlock ≠ some g) ∧ ps.length + gg * A ≤ 800001 ∧ Hid (∀ a ∈ ts',a.args.length ≤ A))
 case atStart => exact ⟨ts,[(x,y)],HR,HS0,hid (SolFr.of_fr HF0.out),HP0,HNE0,by simp only [List.length_singleton];omega,HSZ⟩
 case round =>
  obtain ⟨ts1,ps,HQ,HS1,HFR,HP,HNE,hps,HAL⟩:=hrel
  obtain ⟨f1,hf1⟩ : ∃ f1,gk = f1 + 1:=by
   cases gk with
   | zero => have h0:=HQ.out;simp [Un.joinG] at h0
   | succ f1 => exact ⟨f1,rfl⟩
  subst hf1
  rcases List.eq_nil_or_concat ps with rfl | ⟨qs,⟨px,py⟩,hqs⟩
  ·have hr : r = some ts1:=by
    have h0:=HQ.out
    rw [joinG_nil] at h0;simp only [Option.some.injEq] at h0
    exact h0.symm
   subst hr
   obtain ⟨pp,cp,rfl⟩:=HP.out.shape
   simp only [List.length_nil] at hps ⊢
   go_wp2_with fail
   first | go_end0 | refine bodyPost_ret (results_none rfl _ _ _) rfl ?_
   exact ⟨rfl,HS1.out.weak (fun k _ h => h.1),HFR.out⟩
  ·rw [List.concat_eq_append] at hqs
   subst hqs
   obtain ⟨t1,ra,t2,rc,hsx,hsy,hcase⟩:=joinG_step HQ.out
   rw [Nat.succ_mul] at hps
   rw [List.length_append,List.length_singleton] at hps
   have hP1:=HP.out
   rw [List.length_append,List.length_singleton] at hP1
   obtain ⟨pg,pc,rfl,hpB,hpl,hpc,hpm,x0,x1,hpop⟩:=pairs_last hP1
   unfold maxLen at hpm
   have HPOP:=hid hpop
   obtain ⟨m,hm⟩ : ∃ m,m = qs.length:=⟨_,rfl⟩
   have HM:=hid hm
   rw [← hm] at hps hpc x0 x1 HPOP
   have HS1' : Hid (SolV wr (fun k => N k ∧ (Value.slice (some ⟨pg,0,none⟩) (m + 1) pc).ownBlock ≠ some k) b n ts1 tv):=hid (HS1.out.weak (fun k _ h => ⟨h.1,fun e => h.2 (by rw [← e];rfl)⟩))
   have HX : Hid (Calls Try.prog 88 #[.pointer (some ⟨b,0,none⟩),.int .i64 px] wr.drew fun e w' => e = .returned (.int .i64 ra) ∧ SolV w' (fun k => N k ∧ (Value.slice (some ⟨pg,0,none⟩) (m + 1) pc).ownBlock ≠ some k) b n t1 tv ∧ SolFr b tv tv wr.drew w'):=hid (speaker_any b n _ fs ts1 t1 px ra tv _ (HS1'.out.keep0 ((Fr.refl [] wr).drew)) hsx)
   have HY : Hid (∀ wx,SolV wx (fun k => N k ∧ (Value.slice (some ⟨pg,0,none⟩) (m + 1) pc).ownBlock ≠ some k) b n t1 tv → Calls Try.prog 88 #[.pointer (some ⟨b,0,none⟩),.int .i64 py] wx fun e w' => e = .returned (.int .i64 rc) ∧ SolV w' (fun k => N k ∧ (Value.slice (some ⟨pg,0,none⟩) (m + 1) pc).ownBlock ≠ some k) b n t2 tv ∧ SolFr b tv tv wx w'):=hid (fun wx h => speaker_any b n _ fs t1 t2 py rc tv wx h hsy)
   have hnb : pg ≠ b:=by have:=HS.out.lt;omega
   have hno : tv.ownBlock ≠ some pg:=HNE.out pg rfl
   have HNEG:=hid hno
   have HPC : Hid (∀ wx,SolFr b tv tv wr wx → wx.cell? ⟨pg,m * 2,none⟩ = some (.int .i64 px) ∧ wx.cell? ⟨pg,m * 2 + 1,none⟩ = some (.int .i64 py) ∧ pg < wx.heap.size ∧ OwnL wx (fun _ => False) w.heap.size 110 2 m (rowsQ qPair qs) (.slice (some ⟨pg,0,none⟩) m pc)):=hid (fun wx h =>
    ⟨(h.pcells hpl hnb hno _).trans x0,(h.pcells hpl hnb hno _).trans x1,Nat.lt_of_lt_of_le hpl h.size,HPOP.out.keepX (h.fr (X:=b :: tv.ownBlock.toList) (by simp) (fun k hk => by simp [hk])) (fun k hk => ⟨fun e => by
     simp only [Value.ownBlock,Option.some.injEq] at e
     subst e
     rcases List.mem_cons.1 hk with h1 | h1
     ·exact hnb h1
     ·exact hno (by simpa using h1),fun h => h⟩)⟩)
   have HSX:=hid hsx
   have HSY:=hid hsy
   have HCASE:=hid hcase
   have HL2 : Hid (t2.length = ts1.length):=hid ((Un.speaker_len hsy).1.trans (Un.speaker_len hsx).1)
   have HRA:=hid (Un.speaker_len hsx).2
   have HRC:=hid (Un.speaker_len hsy).2
   have HL1 : Hid (t1.length = ts1.length):=hid (Un.speaker_len hsx).1
   have HAL2 : Hid (∀ a ∈ t2,a.args.length ≤ A):=hid (speaker_argsA hsy (speaker_argsA hsx HAL.out))
   have HDF : Hid (SolFr b tv tv wr wr.drew):=hid (SolFr.of_fr ((Fr.refl [] wr).drew))
   simp only [List.length_append,List.length_singleton,← hm]
   have hd0 : decide (0 < ((m + 1 : Nat) : Int)) = true:=by first | (simp;done) | (simp;omega)
   have hd1 : decide (m < m + 1) = true:=by simp
   clear hsx hsy hcase hpop hP1 hm hnb hno
   have hd2 : decide ((m : Int) < ((m + 1 : Nat) : Int)) = true:=by first | (simp;done) | (simp;omega)
   have hd3 : (m : Int) < (m : Int) + 1:=by omega
   have hd4 : decide ((m : Int) < (m : Int) + 1) = true:=decide_eq_true hd3
   have d0 : wr.drew.cell? ⟨pg,m * 2,none⟩ = some (.int .i64 px):=x0
   have d1 : wr.drew.cell? ⟨pg,m * 2 + 1,none⟩ = some (.int .i64 py):=x1
   have dl : pg < wr.drew.heap.size:=hpl
   go_wp2_with fail
   go_cut [8,9] (fun s8 s9 wx => s8 = .int .i64 ra ∧ s9 = .int .i64 rc ∧ SolV wx (fun k => N k ∧ (Value.slice (some ⟨pg,0,none⟩) (m + 1) pc).ownBlock ≠ some k) b n t2 tv ∧ SolFr b tv tv wr wx)
   case first =>
    go_region_law (first | (go_simp;go_at_call 88;(with_reducible refine HX.out.mono ?_);rintro e w5 ⟨rfl,hS5,hF5⟩;have HS5:=hid hS5;have HF5:=hid (HDF.out.trans hF5);obtain ⟨y0,y1,y2,y3⟩:=HPC.out _ HF5.out;clear hS5 hF5 y3) | (go_simp;go_at_call 88;(with_reducible refine (HY.out _ HS5.out).mono ?_);rintro e w6 ⟨rfl,hS6,hF6⟩;have HS6:=hid hS6;have HF6:=hid (HF5.out.trans hF6);clear hS6 hF6))
    all_goals (try go_wp2_with fail)
    all_goals (go_meet;exact ⟨rfl,rfl,HS6.out,HF6.out⟩)
   case rest =>
    obtain ⟨rfl,rfl,hs6,hf6⟩:=hcut
    obtain ⟨w6,hw6⟩ : ∃ v : World,v = wc:=⟨_,rfl⟩
    subst hw6
    have HS6:=hid hs6
    have HF6:=hid hf6
    clear hs6 hf6
    clear d0 d1 dl x0 x1 hpl
    have HO3 : Hid (OwnL w6 (fun _ => False) w.heap.size 110 2 m (rowsQ qPair qs) (.slice (some ⟨pg,0,none⟩) m pc)):=hid (HPC.out _ HF6.out).2.2.2
    have HF3 : Hid (SolFr b tv tv w w6):=hid (HFR.out.trans HF6.out)
    clear HX HY HS1 HFR HPOP HP HNE HPC HDF HS1' HF6 HQ HSX HSY HAL
    obtain ⟨w3,hw3⟩ : ∃ w3,w3 = w6:=⟨_,rfl⟩
    subst hw3
    have HS3:=HS6
    clear HS6
    have hm1 : decide (m ≤ pc) = true:=by simp;omega
    have s0 : w3.cell? ⟨b,0,none⟩ = some (.int .i64 n):=HS3.out.blk.cell 0
    have s1 : w3.cell? ⟨b,1,none⟩ = some tv:=HS3.out.blk.cell 1
    have sl : b < w3.heap.size:=HS3.out.blk.lt
    rcases HCASE.out with ⟨rfl,hj⟩ | ⟨hne,hlt,hj⟩ | ⟨hne,hnl,hlt,hj⟩ | ⟨hne,hnl,hnl2,a,c,ha,hc,⟨hhd,hj⟩ | ⟨hhd,rfl⟩⟩
    ·have HJ:=hid hj
     have e1 : (ra == ra) = true:=by simp
     clear hj
     go_wp2_with fail
     go_roundg f1
     case measure => omega
     case rel => exact ⟨t2,qs,HJ,hid HS3.out,HF3,by rw [← HM.out];exact HO3,hid (fun g hg => by simp only [Value.ownBlock,Option.some.injEq] at hg;subst hg;exact HNEG.out),by rw [← HM.out];omega,HAL2⟩
    ·have HJ:=hid hj
     clear hj
     obtain ⟨k,rfl⟩ : ∃ k : Nat,ra = k:=⟨ra.toNat,by have:=HRA.out;omega⟩
     have hk : k < t2.length:=by have h1:=HRA.out;have h2:=HL2.out;have h3:=HL1.out;omega
     obtain ⟨a,hka⟩ : ∃ a,t2[k]? = some a:=⟨_,List.getElem?_eq_getElem hk⟩
     obtain ⟨g,cap,p,c0,pv,cv,rfl,q1,q2,q3,q4,e0,e1,e2,e3,e4,q5,q6,q7⟩:=HS3.out.el hka
     unfold maxLen at q2
     have hd3 : decide (k < t2.length) = true:=by simpa using hk
     have hd4 : decide ((k : Int) < (t2.length : Int)) = true:=by simp;omega
     have f4 : w3.frozen? ⟨g,k * 5 + 4,none⟩ = false:=q5 _
     have hpg : pg ≠ g:=fun e => HNEG.out (by rw [e];rfl)
     have hbg : b ≠ g:=by omega
     have HK:=hid hk
     have HPG:=hid hpg
     have u1 : ((k : Int) == rc) = false:=by simpa using hne
     have u2 : decide ((k : Int) < n) = true:=by simpa using hlt
     have HS4:=hid (HS3.out.set HK.out rc)
     have HF4:=hid (HF3.out.trans (SolFr.set (b:=b) (n:=t2.length) (cap:=cap) (o:=k * 5 + 4) (g:=g) (.int .i64 rc)))
     have HO4:=hid (HO3.out.keepX (X:=[g]) ((Fr.refl [g] w3).setCell (p:=⟨g,k * 5 + 4,none⟩) (.inl (by simp)) (.int .i64 rc)) (fun z hz => by
      rw [List.mem_singleton.1 hz]
      exact ⟨fun e => HPG.out (by simpa [Value.ownBlock] using e),fun h => h⟩))
     have HAL4:=hid (setNext_argsA HAL2.out k rc)
     clear e0 e1 e2 e3 q5 q6 q7 hka hne hlt hk hpg
     go_wp2_with fail
     clear e4
     go_roundg f1
     case measure => omega
     case rel => exact ⟨setNext t2 k rc,qs,HJ,hid HS4.out,HF4,by rw [← HM.out];exact HO4,hid (fun z hz => by simp only [Value.ownBlock,Option.some.injEq] at hz;subst hz;exact HNEG.out),by rw [← HM.out];omega,HAL4⟩
    ·have HJ:=hid hj
     clear hj
     obtain ⟨k,rfl⟩ : ∃ k : Nat,rc = k:=⟨rc.toNat,by have:=HRC.out;omega⟩
     have hk : k < t2.length:=by have h1:=HRC.out;have h2:=HL2.out;have h3:=HL1.out;omega
     obtain ⟨a,hka⟩ : ∃ a,t2[k]? = some a:=⟨_,List.getElem?_eq_getElem hk⟩
     obtain ⟨g,cap,p,c0,pv,cv,rfl,q1,q2,q3,q4,e0,e1,e2,e3,e4,q5,q6,q7⟩:=HS3.out.el hka
     unfold maxLen at q2
     have hd3 : decide (k < t2.length) = true:=by simpa using hk
     have hd4 : decide ((k : Int) < (t2.length : Int)) = true:=by simp;omega
     have f4 : w3.frozen? ⟨g,k * 5 + 4,none⟩ = false:=q5 _
     have hpg : pg ≠ g:=fun e => HNEG.out (by rw [e];rfl)
     have hbg : b ≠ g:=by omega
     have HK:=hid hk
     have HPG:=hid hpg
     have u1 : (ra == (k : Int)) = false:=by simpa using hne
     have u2 : decide (ra < n) = false:=by simpa using hnl
     have u3 : decide ((k : Int) < n) = true:=by simpa using hlt
     have HS4:=hid (HS3.out.set HK.out ra)
     have HF4:=hid (HF3.out.trans (SolFr.set (b:=b) (n:=t2.length) (cap:=cap) (o:=k * 5 + 4) (g:=g) (.int .i64 ra)))
     have HO4:=hid (HO3.out.keepX (X:=[g]) ((Fr.refl [g] w3).setCell (p:=⟨g,k * 5 + 4,none⟩) (.inl (by simp)) (.int .i64 ra)) (fun z hz => by
      rw [List.mem_singleton.1 hz]
      exact ⟨fun e => HPG.out (by simpa [Value.ownBlock] using e),fun h => h⟩))
     have HAL4:=hid (setNext_argsA HAL2.out k ra)
     clear e0 e1 e2 e3 q5 q6 q7 hka hne hnl hlt hk hpg
     go_wp2_with fail
     clear e4
     go_roundg f1
     case measure => omega
     case rel => exact ⟨setNext t2 k ra,qs,HJ,hid HS4.out,HF4,by rw [← HM.out];exact HO4,hid (fun z hz => by simp only [Value.ownBlock,Option.some.injEq] at hz;subst hz;exact HNEG.out),by rw [← HM.out];omega,HAL4⟩
    ·have HJ:=hid hj
     clear hj
     obtain ⟨k,hk0,hk,hka⟩:=tm_some ha
     subst hk0
     obtain ⟨g,cap,p,c0,pv,cv,rfl,q1,q2,q3,q4,e0,e1,e2,e3,e4,q5,q6,q7⟩:=HS3.out.el hka
     unfold maxLen at q2
     have hd3 : decide (k < t2.length) = true:=by simpa using hk
     have hd4 : decide ((k : Int) < (t2.length : Int)) = true:=by simp;omega
     have f4 : w3.frozen? ⟨g,k * 5 + 4,none⟩ = false:=q5 _
     have hpg : pg ≠ g:=fun e => HNEG.out (by rw [e];rfl)
     have hbg : b ≠ g:=by omega
     have HK:=hid hk
     have HPG:=hid hpg
     obtain ⟨l,hl0,hl,hlc⟩:=tm_some hc
     subst hl0
     have hkl : k ≠ l:=fun e => hne (by rw [e])
     have u1 : ((k : Int) == (l : Int)) = false:=by simp;omega
     have u2 : decide ((k : Int) < n) = false:=by simpa using hnl
     have u3 : decide ((l : Int) < n) = false:=by simpa using hnl2
     have hd5 : decide (l < t2.length) = true:=by simpa using hl
     have hd6 : decide ((l : Int) < (t2.length : Int)) = true:=by simp;omega
     have HS4:=hid (HS3.out.set HK.out l)
     have HF4:=hid (HF3.out.trans (SolFr.set (b:=b) (n:=t2.length) (cap:=cap) (o:=k * 5 + 4) (g:=g) (.int .i64 l)))
     have HO4:=hid (HO3.out.keepX (X:=[g]) ((Fr.refl [g] w3).setCell (p:=⟨g,k * 5 + 4,none⟩) (.inl (by simp)) (.int .i64 l)) (fun z hz => by
      rw [List.mem_singleton.1 hz]
      exact ⟨fun e => HPG.out (by simpa [Value.ownBlock] using e),fun h => h⟩))
     have HAL4:=hid (setNext_argsA HAL2.out k l)
     have hta : (setNext t2 k (l : Int))[k]? = some { a with next:=(l : Int) }:=by
      rw [Un.setNext_eq hk,List.getElem?_set_self hk]
      rw [List.getElem?_eq_getElem hk] at hka
      cases hka;rfl
     have htc : (setNext t2 k (l : Int))[l]? = some c:=by rw [Un.setNext_eq hk,List.getElem?_set_ne hkl];exact hlc
     have HTA:=hid hta
     have HTC:=hid htc
     have HHD2 : Hid (headOk { a with next:=(l : Int) } c = true):=hid hhd
     have HAA : Hid (a.args.length ≤ A):=hid (HAL2.out a (List.mem_of_getElem? hka))
     clear e0 e1 e2 e3 q5 q6 q7 hka hne hnl hnl2 hpg hlc hta htc hhd
     go_wp2_with fail
     clear e4
     clear s0 s1 sl f4 HS3 HF3 HO3
     generalize hw4 : w3.setCell ⟨g,k * 5 + 4,none⟩ (.int .i64 (l : Int)) = w4
     rw [hw4] at HS4 HF4 HO4
     clear hw4
     have s1 : w4.cell? ⟨b,1,none⟩ = some (.slice (some ⟨g,0,none⟩) t2.length cap):=HS4.out.blk.cell 1
     have sl : b < w4.heap.size:=HS4.out.blk.lt
     obtain ⟨g',cap',p1,c1,pv1,cv1,heq,_,_,_,q4,e0,e1,e2,e3,e4,_,ty1,in1⟩:=HS4.out.el HTA.out
     simp only [Value.slice.injEq,Option.some.injEq,Addr.mk.injEq,and_true,true_and] at heq
     obtain ⟨rfl,hh,rfl⟩:=heq
     clear hh
     obtain ⟨g',cap',p2,c2,pv2,cv2,heq,_,_,_,_,d0,d1,d2,d3,d4,_,ty2,in2⟩:=HS4.out.el HTC.out
     simp only [Value.slice.injEq,Option.some.injEq,Addr.mk.injEq,and_true,true_and] at heq
     obtain ⟨rfl,hh,rfl⟩:=heq
     clear hh
     have T1:=hid (TmV.mk ty1 in1)
     have T2:=hid (TmV.mk ty2 in2)
     simp only at e0 e1 e2 e3 e4 T1
     clear ty1 in1 ty2 in2
     have HW4 : Hid (∀ k,SolFr b (.slice (some ⟨g,0,none⟩) t2.length cap) (.slice (some ⟨g,0,none⟩) t2.length cap) w4 (w4.drewN k)):=hid fun k => SolFr.of_fr ((Fr.refl [] w4).drewN k)
     obtain ⟨zs,hzs⟩ : ∃ zs,zs = a.args.zip c.args:=⟨_,rfl⟩
     have HZL : Hid (zs.length ≤ A):=hid (by have h1:=HAA.out;rw [hzs];simp;omega)
     rw [← hzs] at HJ
     have HOK : Hid (∀ k,Calls Try.prog 89 #[.pointer (some ⟨b,0,none⟩),.agg #[.int .i64 (kd a.t),.int .i64 (nm a.t),.slice p1 (ar a.t).length c1,.slice pv1 a.args.length cv1,.int .i64 (l : Int)],.agg #[.int .i64 (kd c.t),.int .i64 (nm c.t),.slice p2 (ar c.t).length c2,.slice pv2 c.args.length cv2,.int .i64 c.next]] (w4.drewN k) (PairsP zs (w4.drewN k))):=hid fun k => hzs ▸ args_ok b { a with next:=(l : Int) } c _ _ _ _ (w4.drewN k) (InN.keep0 T1.out ((Fr.refl [] w4).drewN k)) (InN.keep0 T2.out ((Fr.refl [] w4).drewN k)) HHD2.out (Nat.le_trans HAA.out hA)
     have HZS:=hid hzs
     clear hzs
     go_region_law (first | (refine step_append_ownl_src _ (by rfl) _ _ 111 (by rfl) (fun _ => False) w.heap.size 110 i0 _ 2 16 Try.underlying111 HI0.out hz0 hz1 hz2 rfl (by decide) (.slice (some ⟨pg,0,none⟩) m pc) _ m zs.length (rowsQ qPair qs) (rowsQ qPair zs) (by rfl) (by rfl) HO6.out HSRC.out (by have h1:=HZL.out;omega) (by decide) HB6.out ?_;intro p7 c7 w7 hL7 hg7 hv7;have HL7:=hid hL7;have HG7:=hid hg7;have HV7:=hid hv7;clear hL7 hg7 hv7) | (go_simp;go_at_call 89;refine (HOK.out 1).mono ?_;rintro e w6 ⟨v6,rfl,ho6,hf6,hv6⟩;have HF6:=hid ((HF4.out.trans (HW4.out 1)).trans (SolFr.of_fr hf6));have HS6:=hid ((HS4.out.keep0 ((Fr.refl [] w4).drewN 1)).keep0 hf6);have HO6:=hid ((HO4.out.keep ((Fr.refl [] w4).drewN 1) (by simp)).keep hf6 (by simp));have HSRC:=hid (src_of_pairs (N:=fun k => False ∧ some k ≠ (Value.slice (some ⟨pg,0,none⟩) m pc).ownBlock) ho6 hv6);have HB6 : Hid (w.heap.size ≤ w6.heap.size):=hid HF6.out.size;clear ho6 hf6 hv6))
     all_goals
      have hvo : ∀ z,(Value.slice (some ⟨pg,0,none⟩) m pc).ownBlock = some z → z ≠ b ∧ (Value.slice (some ⟨g,0,none⟩) t2.length cap).ownBlock ≠ some z:=fun z hz => by
       simp only [Value.ownBlock,Option.some.injEq] at hz
       subst hz
       exact ⟨by have:=HS.out.lt;omega,fun e => HPG.out (by simpa [Value.ownBlock] using e.symm)⟩
      have HS8:=hid (SolV.grown (v':=.slice p7 (m + zs.length) c7) HS6.out HG7.out HV7.out hvo)
      have HF8:=hid (HF6.out.grown HG7.out (fun z hz => by simp only [Value.ownBlock,Option.some.injEq] at hz;omega))
      have HNE8 : Hid (∀ z,(Value.slice p7 (m + zs.length) c7).ownBlock = some z → (Value.slice (some ⟨g,0,none⟩) t2.length cap).ownBlock ≠ some z):=hid (fun z hz e => by
       rcases HV7.out z hz with h1 | h1
       ·have h2:=(HS6.out.l.own z e).2
        omega
       ·exact (hvo z h1).2 e)
      have hzl:=HZL.out
      clear hvo
      go_wp2_with fail
      go_roundg f1
      case measure => omega
      case rel => exact ⟨setNext t2 k l,qs ++ zs,HJ,HS8,HF8,by rw [List.length_append,← HM.out,rowsQ_app];exact HL7,HNE8,by rw [List.length_append,← HM.out];omega,HAL4⟩
    ·have HHD:=hid hhd
     obtain ⟨k,hk0,hk,hka⟩:=tm_some ha
     subst hk0
     obtain ⟨g,cap,p,c0,pv,cv,rfl,q1,q2,q3,q4,e0,e1,e2,e3,e4,q5,q6,q7⟩:=HS3.out.el hka
     unfold maxLen at q2
     have hd3 : decide (k < t2.length) = true:=by simpa using hk
     have hd4 : decide ((k : Int) < (t2.length : Int)) = true:=by simp;omega
     have f4 : w3.frozen? ⟨g,k * 5 + 4,none⟩ = false:=q5 _
     have hpg : pg ≠ g:=fun e => HNEG.out (by rw [e];rfl)
     have hbg : b ≠ g:=by omega
     have HK:=hid hk
     have HPG:=hid hpg
     obtain ⟨l,hl0,hl,hlc⟩:=tm_some hc
     subst hl0
     have hkl : k ≠ l:=fun e => hne (by rw [e])
     have u1 : ((k : Int) == (l : Int)) = false:=by simp;omega
     have u2 : decide ((k : Int) < n) = false:=by simpa using hnl
     have u3 : decide ((l : Int) < n) = false:=by simpa using hnl2
     have hd5 : decide (l < t2.length) = true:=by simpa using hl
     have hd6 : decide ((l : Int) < (t2.length : Int)) = true:=by simp;omega
     have HS4:=hid (HS3.out.set HK.out l)
     have HF4:=hid (HF3.out.trans (SolFr.set (b:=b) (n:=t2.length) (cap:=cap) (o:=k * 5 + 4) (g:=g) (.int .i64 l)))
     have HO4:=hid (HO3.out.keepX (X:=[g]) ((Fr.refl [g] w3).setCell (p:=⟨g,k * 5 + 4,none⟩) (.inl (by simp)) (.int .i64 l)) (fun z hz => by
      rw [List.mem_singleton.1 hz]
      exact ⟨fun e => HPG.out (by simpa [Value.ownBlock] using e),fun h => h⟩))
     have HAL4:=hid (setNext_argsA HAL2.out k l)
     have hta : (setNext t2 k (l : Int))[k]? = some { a with next:=(l : Int) }:=by
      rw [Un.setNext_eq hk,List.getElem?_set_self hk]
      rw [List.getElem?_eq_getElem hk] at hka
      cases hka;rfl
     have htc : (setNext t2 k (l : Int))[l]? = some c:=by rw [Un.setNext_eq hk,List.getElem?_set_ne hkl];exact hlc
     have HTA:=hid hta
     have HTC:=hid htc
     have HHD2 : Hid (headOk { a with next:=(l : Int) } c = false):=hid hhd
     have HAA : Hid (a.args.length ≤ A):=hid (HAL2.out a (List.mem_of_getElem? hka))
     clear e0 e1 e2 e3 q5 q6 q7 hka hne hnl hnl2 hpg hlc hta htc hhd
     go_wp2_with fail
     clear e4
     clear s0 s1 sl f4 HS3 HF3 HO3
     generalize hw4 : w3.setCell ⟨g,k * 5 + 4,none⟩ (.int .i64 (l : Int)) = w4
     rw [hw4] at HS4 HF4 HO4
     clear hw4
     have s1 : w4.cell? ⟨b,1,none⟩ = some (.slice (some ⟨g,0,none⟩) t2.length cap):=HS4.out.blk.cell 1
     have sl : b < w4.heap.size:=HS4.out.blk.lt
     obtain ⟨g',cap',p1,c1,pv1,cv1,heq,_,_,_,q4,e0,e1,e2,e3,e4,_,ty1,in1⟩:=HS4.out.el HTA.out
     simp only [Value.slice.injEq,Option.some.injEq,Addr.mk.injEq,and_true,true_and] at heq
     obtain ⟨rfl,hh,rfl⟩:=heq
     clear hh
     obtain ⟨g',cap',p2,c2,pv2,cv2,heq,_,_,_,_,d0,d1,d2,d3,d4,_,ty2,in2⟩:=HS4.out.el HTC.out
     simp only [Value.slice.injEq,Option.some.injEq,Addr.mk.injEq,and_true,true_and] at heq
     obtain ⟨rfl,hh,rfl⟩:=heq
     clear hh
     have T1:=hid (TmV.mk ty1 in1)
     have T2:=hid (TmV.mk ty2 in2)
     simp only at e0 e1 e2 e3 e4 T1
     clear ty1 in1 ty2 in2
     have HW4 : Hid (∀ k,SolFr b (.slice (some ⟨g,0,none⟩) t2.length cap) (.slice (some ⟨g,0,none⟩) t2.length cap) w4 (w4.drewN k)):=hid fun k => SolFr.of_fr ((Fr.refl [] w4).drewN k)
     have HBAD : Hid (∀ k,Calls Try.prog 89 #[.pointer (some ⟨b,0,none⟩),.agg #[.int .i64 (kd a.t),.int .i64 (nm a.t),.slice p1 (ar a.t).length c1,.slice pv1 a.args.length cv1,.int .i64 (l : Int)],.agg #[.int .i64 (kd c.t),.int .i64 (nm c.t),.slice p2 (ar c.t).length c2,.slice pv2 c.args.length cv2,.int .i64 c.next]] (w4.drewN k) fun e w' => e = failE 8 ∧ Fr [] (w4.drewN k) w'):=hid fun k => args_bad b { a with next:=(l : Int) } c _ _ _ _ (w4.drewN k) (InN.keep0 T1.out ((Fr.refl [] w4).drewN k)) (InN.keep0 T2.out ((Fr.refl [] w4).drewN k)) HHD2.out
     refine wp_region_any (by kernel_rfl) ?_
     change wpAny _ _ _ _ _ _ _ (World.drew _)
     repeat' (first | (refine wpAny_take (i:=0) (v:=.slice (some ⟨pg,0,none⟩) m pc) rfl ?_ ?_ ?_ (fun _ _ _ h => h) (Or.inl ⟨by rfl,?_⟩) ?_;(focus (decide +kernel));(focus (decide +kernel));(focus (decide +kernel));(focus (intro w;go_simp;try with_reducible rfl))) | (refine wpAny_take (i:=1) (v:=.pointer (some ⟨b,0,none⟩)) rfl ?_ ?_ ?_ (fun _ _ _ h => h) (Or.inl ⟨by rfl,?_⟩) ?_;(focus (decide +kernel));(focus (decide +kernel));(focus (decide +kernel));(focus (intro w;go_simp;try with_reducible rfl))) | (refine wpAny_take (i:=2) (v:=.pointer (some ⟨b,0,none⟩)) rfl ?_ ?_ ?_ (fun _ _ _ h => h) (Or.inl ⟨by rfl,?_⟩) ?_;(focus (decide +kernel));(focus (decide +kernel));(focus (decide +kernel));(focus (intro w;go_simp;try with_reducible rfl))) | (refine wpAny_take (i:=3) (v:=.pointer (some ⟨b,0,none⟩)) rfl ?_ ?_ ?_ (fun _ _ _ h => h) (Or.inl ⟨by rfl,?_⟩) ?_;(focus (decide +kernel));(focus (decide +kernel));(focus (decide +kernel));(focus (intro w;go_simp;try with_reducible rfl))) | (refine wpAny_take (i:=4) (v:=.pointer (some ⟨b,1,none⟩)) rfl ?_ ?_ ?_ (fun _ _ _ h => h) (Or.inl ⟨by rfl,?_⟩) ?_;(focus (decide +kernel));(focus (decide +kernel));(focus (decide +kernel));(focus (intro w;go_simp;try with_reducible rfl))) | (refine wpAny_take (i:=6) (v:=.int .i64 k) rfl ?_ ?_ ?_ (fun _ _ _ h => h) (Or.inl ⟨by rfl,?_⟩) ?_;(focus (decide +kernel));(focus (decide +kernel));(focus (decide +kernel));(focus (intro w;go_simp;try with_reducible rfl))) | (refine wpAny_take (i:=9) (v:=.pointer (some ⟨b,0,none⟩)) rfl ?_ ?_ ?_ (fun _ _ _ h => h) (Or.inl ⟨by rfl,?_⟩) ?_;(focus (decide +kernel));(focus (decide +kernel));(focus (decide +kernel));(focus (intro w;go_simp;try with_reducible rfl))) | (refine wpAny_take (i:=10) (v:=.pointer (some ⟨b,0,none⟩)) rfl ?_ ?_ ?_ (fun _ _ _ h => h) (Or.inl ⟨by rfl,?_⟩) ?_;(focus (decide +kernel));(focus (decide +kernel));(focus (decide +kernel));(focus (intro w;go_simp;try with_reducible rfl))) | (refine wpAny_take (i:=11) (v:=.pointer (some ⟨b,1,none⟩)) rfl ?_ ?_ ?_ (fun _ _ _ h => h) (Or.inl ⟨by rfl,?_⟩) ?_;(focus (decide +kernel));(focus (decide +kernel));(focus (decide +kernel));(focus (intro w;go_simp;try with_reducible rfl))) | (refine wpAny_take (i:=13) (v:=.int .i64 l) rfl ?_ ?_ ?_ (fun _ _ _ h => h) (Or.inl ⟨by rfl,?_⟩) ?_;(focus (decide +kernel));(focus (decide +kernel));(focus (decide +kernel));(focus (intro w;go_simp;try with_reducible rfl))) | (refine wpAny_ready (rs:=[16]) ?_ (by simp) ?_;(focus (decide +kernel));refine AllReady.cons rfl (fun K hK => ?_) AllReady.nil;go_simp;go_at_call 89;refine (HBAD.out 1).mono ?_;rintro e w6 ⟨rfl,hf6⟩;exact ⟨rfl,rfl,(HF4.out.trans (HW4.out 1)).trans (SolFr.of_fr hf6)⟩) | (refine wpAny_ready (rs:=[5,12]) ?_ (by simp) ?_;(focus (decide +kernel));refine AllReady.cons rfl (fun K hK => ?_) (AllReady.cons rfl (fun K hK => ?_) AllReady.nil) <;> (go_simp;refine hK _ _ ?_;clear hK K)) | (refine wpAny_ready (rs:=[5,14]) ?_ (by simp) ?_;(focus (decide +kernel));refine AllReady.cons rfl (fun K hK => ?_) (AllReady.cons rfl (fun K hK => ?_) AllReady.nil) <;> (go_simp;refine hK _ _ ?_;clear hK K)) | (refine wpAny_ready (rs:=[5,15]) ?_ (by simp) ?_;(focus (decide +kernel));refine AllReady.cons rfl (fun K hK => ?_) (AllReady.cons rfl (fun K hK => ?_) AllReady.nil) <;> (go_simp;refine hK _ _ ?_;clear hK K)) | (refine wpAny_ready (rs:=[7,12]) ?_ (by simp) ?_;(focus (decide +kernel));refine AllReady.cons rfl (fun K hK => ?_) (AllReady.cons rfl (fun K hK => ?_) AllReady.nil) <;> (go_simp;refine hK _ _ ?_;clear hK K)) | (refine wpAny_ready (rs:=[7,14]) ?_ (by simp) ?_;(focus (decide +kernel));refine AllReady.cons rfl (fun K hK => ?_) (AllReady.cons rfl (fun K hK => ?_) AllReady.nil) <;> (go_simp;refine hK _ _ ?_;clear hK K)) | (refine wpAny_ready (rs:=[7,15]) ?_ (by simp) ?_;(focus (decide +kernel));refine AllReady.cons rfl (fun K hK => ?_) (AllReady.cons rfl (fun K hK => ?_) AllReady.nil) <;> (go_simp;refine hK _ _ ?_;clear hK K)) | (refine wpAny_ready (rs:=[8,12]) ?_ (by simp) ?_;(focus (decide +kernel));refine AllReady.cons rfl (fun K hK => ?_) (AllReady.cons rfl (fun K hK => ?_) AllReady.nil) <;> (go_simp;refine hK _ _ ?_;clear hK K)) | (refine wpAny_ready (rs:=[8,14]) ?_ (by simp) ?_;(focus (decide +kernel));refine AllReady.cons rfl (fun K hK => ?_) (AllReady.cons rfl (fun K hK => ?_) AllReady.nil) <;> (go_simp;refine hK _ _ ?_;clear hK K)) | (refine wpAny_ready (rs:=[8,15]) ?_ (by simp) ?_;(focus (decide +kernel));refine AllReady.cons rfl (fun K hK => ?_) (AllReady.cons rfl (fun K hK => ?_) AllReady.nil) <;> (go_simp;refine hK _ _ ?_;clear hK K)) | (refine wpAny_ready (rs:=[5]) ?_ (by simp) ?_;(focus (decide +kernel));refine AllReady.cons rfl (fun K hK => ?_) AllReady.nil;go_simp;refine hK _ _ ?_;clear hK K) | (refine wpAny_ready (rs:=[7]) ?_ (by simp) ?_;(focus (decide +kernel));refine AllReady.cons rfl (fun K hK => ?_) AllReady.nil;go_simp;refine hK _ _ ?_;clear hK K) | (refine wpAny_ready (rs:=[8]) ?_ (by simp) ?_;(focus (decide +kernel));refine AllReady.cons rfl (fun K hK => ?_) AllReady.nil;go_simp;refine hK _ _ ?_;clear hK K) | (refine wpAny_ready (rs:=[12]) ?_ (by simp) ?_;(focus (decide +kernel));refine AllReady.cons rfl (fun K hK => ?_) AllReady.nil;go_simp;refine hK _ _ ?_;clear hK K) | (refine wpAny_ready (rs:=[14]) ?_ (by simp) ?_;(focus (decide +kernel));refine AllReady.cons rfl (fun K hK => ?_) AllReady.nil;go_simp;refine hK _ _ ?_;clear hK K) | (refine wpAny_ready (rs:=[15]) ?_ (by simp) ?_;(focus (decide +kernel));refine AllReady.cons rfl (fun K hK => ?_) AllReady.nil;go_simp;refine hK _ _ ?_;clear hK K))
end Go.Proofs.Ytcdlnhfgehhkcaa
