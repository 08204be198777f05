/- part of the proof -/
import Derived.Test.YtcdlnhfgehhkcaaQ24
import Derived.Test.YtcdlnhfgehhkcaaQ28
import Derived.Test.YtcdlnhfgehhkcaaQ25
import Derived.Test.YtcdlnhfgehhkcaaQ05
import Derived.ProofKit
import Derived.OpenShut
import Derived.ChangeArms
import Derived.ChangeSlices
import Derived.Carry
set_option linter.unusedVariables false
set_option linter.unusedSimpArgs false
set_option linter.unusedSectionVars false
namespace Go.Proofs.Ytcdlnhfgehhkcaa
open Go.RowKit Go.Lib
open Un (kd nm ar size sizes depth unsolved vin appG speaker)
theorem ArrV.more {w : World} {N N' : Nat → Prop} {e : Nat} {l : List Ty} (h : ArrV w N e l) (hN : ∀ k,k < w.heap.size → N k → N' k) : ArrV w N' e l:=by
 obtain ⟨cs,h1,h2⟩:=h
 exact ⟨cs,h1,h2.weak hN⟩
theorem ArrV.tysAt {w : World} {N : Nat → Prop} {e : Nat} {l : List Ty} (h : ArrV w N e l) (he : N e) : TysAt w N l e 0:=by
 obtain ⟨cs,h1,h2⟩:=h
 exact ⟨he,h1.lt,cs.toList,fun j hj => by rw [Nat.zero_add,h1.cell];simp,h2⟩
def SolutionA (b n : Nat) (out : List Ty) (tv : Value) (w : World) (e : Ending) (w' : World) : Prop:=∃ g,e = .returned (.slice (some ⟨g,0,none⟩) n n) ∧ w.heap.size ≤ g ∧ ArrV w' (fun _ => True) g out ∧ SolFr b tv tv w w'
set_option maxRecDepth 100000 in
set_option maxHeartbeats 3200000 in
theorem solutionA_any (b n : Nat) (N : Nat → Prop) (f : Nat) (ts ts' : List Tm) (lst : Int → Option Int) (out : List Ty) (tv : Value) (w : World) (hS : SolV w N b n ts tv) (hn : n ≤ 1000) (hr : Un.sol f n ts n = some (ts',lst,out)) :
  Calls Try.prog 69 #[.pointer (some ⟨b,0,none⟩)] w (SolutionA b n out tv w):=by
 obtain ⟨K,hKd⟩ : ∃ K : Nat → Prop,K = fun k => k < w.heap.size ∧ k ≠ b ∧ tv.ownBlock ≠ some k:=⟨_,rfl⟩
 have HKd:=hid hKd
 have hbl:=hS.lt
 have hown : ∀ k,tv.ownBlock = some k → b + 1 ≤ k ∧ k < w.heap.size:=hS.l.own
 have HOW:=hid hown
 have HBL:=hid hbl
 have HS:=hid (hS.weak (N':=fun k => k < w.heap.size) (fun k hk _ => hk))
 have HR:=hid hr
 have hmm:=@run_makeMap Try.prog
 obtain ⟨j0,hj0,jz0,jz1,jz2⟩:=info_parts info_ty
 have hms : ∀ w1 : World,(Instr.makeSlice 22 (.int .i64 (n : Int)) (.int .i64 (n : Int))).run Try.prog w1 = .ok (.slice (some ⟨w1.heap.size,0,none⟩) n n) (w1.alloc (.cells (madeCells #[.int .i64 0,.int .i64 0,.slice none 0 0] (n * 3)) 24)):=fun w1 => by
  have:=run_makeSlice w1 22 24 j0 _ Try.underlying22 hj0 jz0 .i64 .i64 n n (by omega) (Int.le_refl _) (by rw [jz1];simp;omega) (by rw [jz2];omega) (by omega)
  rw [jz1] at this
  simpa [Value.cells] using this
 clear hS hr hKd hbl hown hj0 jz0 jz1 jz2
 go_enter Try.func69,Try.ntmps69
 have s0 : w.cell? ⟨b,0,none⟩ = some (.int .i64 n):=HS.out.blk.cell 0
 have hb0 : b < w.heap.size:=HBL.out
 go_wp2_with fail
 have hF0 : Fr [] w ((w.alloc (.map #[] 0)).alloc (.cells (madeCells #[.int .i64 0,.int .i64 0,.slice none 0 0] (n * 3)) 24)):=((Fr.refl _ _).alloc _).alloc _
 have HA0 : Hid (ArrV ((w.alloc (.map #[] 0)).alloc (.cells (madeCells #[.int .i64 0,.int .i64 0,.slice none 0 0] (n * 3)) 24)) K (w.heap.size + 1) (List.replicate n Un.zero)):=hid (by
  have:=ArrV.made (w.alloc (.map #[] 0)) K n
  rwa [show (w.alloc (.map #[] 0)).heap.size = w.heap.size + 1 from by simp] at this)
 have HM0 : Hid (MapII ((w.alloc (.map #[] 0)).alloc (.cells (madeCells #[.int .i64 0,.int .i64 0,.slice none 0 0] (n * 3)) 24)) w.heap.size 0 (fun _ => none)):=hid ((MapII.made w).keep ((Fr.refl [] _).alloc _) (by simp))
 have HF0:=hid hF0
 clear hF0 s0
 go_loopw [17] (fun x wr => ∃ (i : Nat) (tsi : List Tm) (lsti : Int → Option Int) (outi : List Ty),x = .int .i64 i ∧ i ≤ n ∧ Hid (Un.sol f n ts i = some (tsi,lsti,outi)) ∧ Hid (SolV wr (fun k => k < w.heap.size) b n tsi tv) ∧ Hid (MapII wr w.heap.size i lsti) ∧ Hid (ArrV wr K (w.heap.size + 1) outi) ∧ Hid (SolFr b tv tv w wr)) (fun x _ => n - (RowKit.intOf x).toNat)
 case atStart => exact ⟨0,ts,_,_,rfl,Nat.zero_le _,hid rfl,hid (HS.out.keep0 HF0.out),HM0,HA0,hid (SolFr.of_fr HF0.out)⟩
 case round =>
  obtain ⟨i,tsi,lsti,outi,rfl,hi,HQ,HS1,HM1,HA1,HF1⟩:=hrel
  clear HS HA0 HM0 HF0 hmm hms
  by_cases hlt : i < n
  ·have hd2 : decide ((i : Int) < (n : Int)) = true:=by simp;omega
   have hd3 : decide (i < n) = true:=by simpa using hlt
   obtain ⟨y,hy⟩:=Un.sol_some (i:=i + 1) (by omega) HR.out
   have HY:=hid hy
   rw [Un.sol,HQ.out] at hy
   simp only at hy
   unfold Un.solStep at hy
   simp only at hy
   obtain ⟨ts2,sp,hsp⟩ : ∃ ts2 sp,speaker f tsi i = some (ts2,sp):=by
    cases h1 : speaker f tsi i with
    | none => simp [h1] at hy
    | some z => exact ⟨z.1,z.2,rfl⟩
   rw [hsp] at hy
   simp only at hy
   have hl1:=Un.speaker_len hsp
   have HL1:=hid hl1
   have HSP:=hid hsp
   have HYY:=hid hy
   have HLO:=hid (Un.sol_len HQ.out)
   clear hsp hy hl1
   go_wp2_with fail
   refine (speaker_any b n _ f tsi ts2 i sp tv wr HS1.out HSP.out).mono ?_
   rintro e w2 ⟨rfl,hS2,hF2⟩
   have HS2:=hid hS2
   have HF2:=hid (HF1.out.trans hF2)
   have hne : ∀ k,w.heap.size ≤ k → k ≠ b ∧ tv.ownBlock ≠ some k:=fun k hk => ⟨by have:=HBL.out;omega,fun h => by have:=(HOW.out k h).2;omega⟩
   have HM2:=hid (HM1.out.stay (hF2.block _ HM1.out.lt (hne _ (Nat.le_refl _)).1 (hne _ (Nat.le_refl _)).2))
   have HA2:=hid (HA1.out.stay hF2.size (hF2.block _ HA1.out.lt (hne _ (by omega)).1 (hne _ (by omega)).2) (fun k hk hK => by
    rw [HKd.out] at hK
    exact hF2.block k hk hK.2.1 hK.2.2))
   obtain ⟨g,c,rfl⟩:=hS2.shape
   have hwsp : (Lit.int .i64 sp).wf = true:=by
    have h1:=HL1.out
    have h2 : ts2.length ≤ 9223372036854775807:=by
     rcases hS2.l with ⟨xs,⟨_,h | ⟨_,_,_,he,_,_,h2,h3,_⟩⟩,_⟩
     ·have:=h.2;omega
     ·have:=h2;unfold maxLen at h3;omega
    exact WalkArith.wf_i64 (by omega)
   clear hS2 hF2 HS1 HM1 HA1 HF1
   have hKe : ¬ K (w.heap.size + 1):=by rw [HKd.out];intro h;have:=h.1;omega
   have hKm : ¬ K w.heap.size:=by rw [HKd.out];intro h;have:=h.1;omega
   have HKE:=hid hKe
   have HKM:=hid hKm
   have HNE:=hid hne
   clear hKe hKm hne
   rcases hls : lsti sp with _ | k
   ·have hq:=HYY.out
    rw [hls] at hq
    simp only [Option.some.injEq] at hq
    have HQ3:=hid hq
    clear hq
    by_cases hsn : (n : Int) ≤ sp
    ·obtain ⟨q,rfl⟩ : ∃ q : Nat,sp = q:=⟨sp.toNat,by have:=HL1.out;omega⟩
     have hd4 : decide ((n : Int) ≤ (q : Int)) = true:=by simpa using hsn
     have hd5 : decide (n ≤ q) = true:=by simp;omega
     have hql : q < ts2.length:=by have:=HL1.out;omega
     have hd6 : decide ((q : Int) < (ts2.length : Int)) = true:=by simp;omega
     have hd7 : decide (q < ts2.length) = true:=by simpa using hql
     have HQL:=hid hql
     clear hql
     go_wp2_with (first | (at_lookup;refine wpList_look_ii _ rfl _ _ 99 rfl Try.underlying99 _ _ lsti rfl HM2.out q rfl hwsp ?_;rw [hls];simp only [Option.getD_none,Option.isSome_none]) | (at_mapUpdate;refine wpList_put_ii _ rfl _ _ _ 99 rfl Try.underlying99 _ i lsti rfl HM2.out (by omega) q i rfl rfl hwsp (WalkArith.wf_i64 (by omega)) ?_;intro w3 hM3 hf3;have HM3:=hid hM3;have HF3:=hid hf3;have HS3:=hid (HS2.out.beside hf3 (fun k hk => by simp only [List.mem_singleton] at hk;subst hk;exact ⟨(HNE.out _ (Nat.le_refl _)).1,(HNE.out _ (Nat.le_refl _)).2,by omega⟩));have HA3:=hid (HA2.out.keep hf3 (by simp) (fun k hk => by simp only [List.mem_singleton] at hk;subst hk;exact HKM.out));clear hM3 hf3;have s0 : w3.cell? ⟨b,0,none⟩ = some (.int .i64 n):=HS3.out.blk.cell 0;have s1 : w3.cell? ⟨b,1,none⟩ = some (.slice g ts2.length c):=HS3.out.blk.cell 1;have sl : b < w3.heap.size:=HS3.out.blk.lt;obtain ⟨g0,cap,p2,c2,pv,cv,he,q1,q2,_,q4,e0,e1,e2,_,_,_,q6,_⟩:=HS3.out.el (List.getElem?_eq_getElem HQL.out);simp only [Value.slice.injEq,true_and] at he;obtain ⟨rfl,rfl⟩:=he;obtain ⟨p5,c5,_,r0,r1,r2,r3⟩:=HA3.out.el (List.getElem?_eq_getElem (show i < outi.length by have:=HLO.out.2;omega));have r4:=HA3.out.lt;have Q6:=hid q6;clear q6;have t0:=r3 (i * 3);have t1:=r3 (i * 3 + 1);have t2:=r3 (i * 3 + 2);clear r3))
     go_roundw
     case rel =>
      have hts : ts2[q]? = some ts2[q]:=List.getElem?_eq_getElem HQL.out
      refine ⟨i + 1,ts2,_,outi.set i (ts2[q]'HQL.out).t,by go_num,by omega,hid ?_,hid (HS3.out.beside (Fr.cells3 _ _ _ _ _ _) (fun k hk => ?_)),hid (HM3.out.keep (Fr.cells3 _ _ _ _ _ _) (by simp)),hid (HA3.out.set (by have:=HLO.out.2;omega) (TyV.weak Q6.out (fun k _ hk => ?_)) HKE.out),hid ((HF2.out.new HF3.out (by simp)).new (Fr.cells3 _ _ _ _ _ _) (by simp))⟩
      ·rw [HY.out,← HQ3.out]
       simp [hts]
       omega
      ·simp only [List.mem_singleton] at hk
       subst hk
       exact ⟨(HNE.out _ (by omega)).1,(HNE.out _ (by omega)).2,by omega⟩
      ·rw [HKd.out]
       exact ⟨hk.1.2,hk.1.1,fun e => hk.2 (by simpa [Value.ownBlock] using e)⟩
     case measure => simp [RowKit.intOf];omega
    ·have hd4 : decide ((n : Int) ≤ sp) = false:=by simpa using hsn
     go_wp2_with (first | (at_lookup;refine wpList_look_ii _ rfl _ _ 99 rfl Try.underlying99 _ _ lsti rfl HM2.out sp rfl hwsp ?_;rw [hls];simp only [Option.getD_none,Option.isSome_none]) | (at_mapUpdate;refine wpList_put_ii _ rfl _ _ _ 99 rfl Try.underlying99 _ i lsti rfl HM2.out (by omega) sp i rfl rfl hwsp (WalkArith.wf_i64 (by omega)) ?_;intro w3 hM3 hf3;have HM3:=hid hM3;have HF3:=hid hf3;have HS3:=hid (HS2.out.beside hf3 (fun k hk => by simp only [List.mem_singleton] at hk;subst hk;exact ⟨(HNE.out _ (Nat.le_refl _)).1,(HNE.out _ (Nat.le_refl _)).2,by omega⟩));have HA3:=hid (HA2.out.keep hf3 (by simp) (fun k hk => by simp only [List.mem_singleton] at hk;subst hk;exact HKM.out));clear hM3 hf3;have s0 : w3.cell? ⟨b,0,none⟩ = some (.int .i64 n):=HS3.out.blk.cell 0;have sl : b < w3.heap.size:=HS3.out.blk.lt))
     go_roundw
     case rel =>
      refine ⟨i + 1,ts2,_,outi,by go_num,by omega,hid ?_,HS3,HM3,HA3,hid (HF2.out.new HF3.out (by simp))⟩
      rw [HY.out,← HQ3.out]
      simp
      omega
     case measure => simp [RowKit.intOf];omega
   ·have hq:=HYY.out
    rw [hls] at hq
    simp only [Option.some.injEq] at hq
    have HQ3:=hid hq
    clear hq
    go_wp2_with (at_lookup;refine wpList_look_ii _ rfl _ _ 99 rfl Try.underlying99 _ _ lsti rfl HM2.out sp rfl hwsp ?_;rw [hls];simp only [Option.getD_some,Option.isSome_some])
    refine (variable_any _ _).mono ?_
    rintro e w3 ⟨rfl,hf3⟩
    have HF3:=hid hf3
    have HA3:=hid (HA2.out.keep0 hf3)
    clear hf3
    obtain ⟨p5,c5,_,r0,r1,r2,r3⟩:=HA3.out.el (List.getElem?_eq_getElem (show i < outi.length by have:=HLO.out.2;omega))
    have r4:=HA3.out.lt
    have t0:=r3 (i * 3)
    have t1:=r3 (i * 3 + 1)
    have t2:=r3 (i * 3 + 2)
    clear r3
    go_wp2_with fail
    go_roundw
    case rel =>
     refine ⟨i + 1,ts2,lsti,outi.set i (Un.var k),by go_num,by omega,hid ?_,hid ((HS2.out.keep0 HF3.out).beside (Fr.cells3 _ _ _ _ _ _) (fun k hk => ?_)),hid (((HM2.out.keep HF3.out (by simp)).keep (Fr.cells3 _ _ _ _ _ _) (by simp)).mono (by omega)),hid (HA3.out.set (by have:=HLO.out.2;omega) (TyV.mk (TysV.nil _ _)) HKE.out),hid ((HF2.out.new HF3.out (by simp)).new (Fr.cells3 _ _ _ _ _ _) (by simp))⟩
     ·rw [HY.out,← HQ3.out]
     ·simp only [List.mem_singleton] at hk
      subst hk
      exact ⟨(HNE.out _ (by omega)).1,(HNE.out _ (by omega)).2,by omega⟩
    case measure => simp [RowKit.intOf];omega
  ·have hd2 : decide ((i : Int) < (n : Int)) = false:=by simp;omega
   have hd3 : decide (i < n) = false:=by simpa using hlt
   obtain rfl : i = n:=by omega
   have hq:=HQ.out
   rw [HR.out] at hq
   simp only [Option.some.injEq,Prod.mk.injEq] at hq
   obtain ⟨rfl,rfl,rfl⟩:=hq
   go_wp2_with fail
   go_ret
   exact ⟨_,rfl,Nat.le_succ _,HA1.out.more (fun _ _ _ => trivial),HF1.out⟩
set_option maxRecDepth 100000 in
set_option maxHeartbeats 1600000 in
theorem clone0_any (a : Addr) (c : Nat) (w : World) : Calls Try.prog 78 #[.slice (some a) 0 c] w fun e w' => ∃ p c',e = .returned (.slice p 0 c') ∧ Fr [] w w':=by
 have q22 : ∀ (w : World) (a : Option Addr) (n c n' c' : Nat),(binOp .eql 22 (.slice a n c) (.slice none n' c')).run Try.prog w = .ok (.bool a.isNone) w:=fun w a n c n' c' => Lib.run_eql_slice_nil w _ _ a n c n' c' Try.underlying22
 go_enter Try.func78,Try.ntmps78
 go_wp2_with fail
 go_ret
 exact ⟨_,_,rfl,(Fr.refl _ _).alloc _⟩
set_option maxRecDepth 100000 in
set_option maxHeartbeats 1600000 in
theorem clone0n_any (c : Nat) (w : World) : Calls Try.prog 78 #[.slice none 0 c] w fun e w' => ∃ p c',e = .returned (.slice p 0 c') ∧ Fr [] w w':=by
 have q22 : ∀ (w : World) (a : Option Addr) (n c n' c' : Nat),(binOp .eql 22 (.slice a n c) (.slice none n' c')).run Try.prog w = .ok (.bool a.isNone) w:=fun w a n c n' c' => Lib.run_eql_slice_nil w _ _ a n c n' c' Try.underlying22
 go_enter Try.func78,Try.ntmps78
 go_wp2_with fail
 go_ret
 exact ⟨_,_,rfl,Fr.refl _ _⟩
theorem cloneE_any (p : Option Addr) (c : Nat) (w : World) : Calls Try.prog 78 #[.slice p 0 c] w fun e w' => ∃ p c',e = .returned (.slice p 0 c') ∧ Fr [] w w':=by
 cases p with
 | none => exact clone0n_any c w
 | some a => exact clone0_any a c w
set_option maxHeartbeats 1600000 in
theorem application0_any (p : Option Addr) (m c : Nat) (hm : m = 0) (w : World) : Calls Try.prog 55 #[.slice p m c] w (ApplP [] w):=by
 subst hm
 have hmf1:=run_makeApp1
 have hmf2:=run_makeApp2
 go_enter Try.func55,Try.ntmps55
 go_wp2_with fail
 refine (cloneE_any p c w).mono ?_
 rintro e w2 ⟨p2,c2,rfl,hf2⟩
 have HF2:=hid hf2
 clear hf2
 go_wp2_with fail
 go_ret
 have hf4 : Fr [] w2 (((w2.alloc (.cells #[.slice p2 0 c2] 22)).alloc (.cells #[.func (.func 81) #[] #[.pointer (some ⟨w2.heap.size + 1 + 1,0,none⟩)]] 57)).alloc (.cells #[.func (.func 79) #[] #[.pointer (some ⟨w2.heap.size,0,none⟩),.pointer (some ⟨w2.heap.size + 1,0,none⟩)]] 79)):=(((Fr.refl _ _).alloc _).alloc _).alloc _
 exact ⟨_,_,_,_,rfl,⟨((Blk.new _ _ _).alloc _).alloc _,(Blk.new_at (by simp)).alloc _,Blk.new_at (by simp),TysV.nil _ _⟩,HF2.out.trans hf4⟩
set_option maxRecDepth 100000 in
set_option maxHeartbeats 16000000 in
theorem unified0_any (A fs f fe fa : Nat) (hA : A ≤ 90000) (hfA : f * A ≤ 800000) (N : Nat → Prop) (s : List Ty) (v : Value) (a b : Ty) (cs ds : List Value) (w : World) (hv : TysV w N s v) (hz : ∀ t ∈ s,size t ≤ A) (hsum : s.length + sizes s + size a + size b ≤ 100000) (h0 : s.length = 0) (hl : s.length ≤ 900) (ha : TyV w N a cs) (hb : TyV w N b ds) (hsa : size a ≤ A) (hsb : size b ≤ A)
  (r : Except Int (List Ty)) (hr : Un.unifiedG fs f fe fa s a b = some r) :
  Calls Try.prog 41 #[v,.agg cs.toArray,.agg ds.toArray] w (UniP r w):=by
 obtain ⟨n,hn⟩ : ∃ n,n = s.length:=⟨_,rfl⟩
 obtain ⟨pa,ka,rfl,_⟩:=ha.shape
 obtain ⟨pb,kb,rfl,_⟩:=hb.shape
 obtain ⟨ps,kp,rfl⟩:=hv.shape
 have HV:=hid hv
 have HZ:=hid hz
 have HA:=hid ha
 have HB:=hid hb
 have HN:=hid hn
 obtain ⟨ts0,hts0,hr2⟩ : ∃ ts0,Un.newS fs f s.length 0 s (Un.fresh s.length) = some (some ts0) ∧ (match Un.joinG fs f s.length (Un.add (Un.add ts0 a).1 b).1 [((Un.add ts0 a).2,(Un.add (Un.add ts0 a).1 b).2)] with
  | none => none
  | some none => some (.error 8)
  | some (some ts) => match Un.sol fs s.length ts s.length with
   | none => none
   | some y => Un.tailG fe fa a y.2.2) = some r:=by
  unfold Un.unifiedG at hr
  split at hr
  ·rename_i ts0 h;exact ⟨ts0,h,hr⟩
  ·cases hr
 obtain ⟨hAL0,hLN0⟩:=Un.newS_args hts0 hz (Un.fresh_args s.length A)
 rw [Un.fresh_len] at hLN0
 have HAL0:=hid hAL0
 rw [← hn] at hr2 hl h0 HV hts0 hLN0 hsum ⊢
 have H0:=hid h0
 clear h0
 have HR:=hid hr2
 have HTS0:=hid hts0
 clear hr hr2 hAL0 hts0
 obtain ⟨w1,hw1⟩ : ∃ w1,w1 = (w.alloc (.cells #[.int .i64 (kd a),.int .i64 (nm a),.slice pa (ar a).length ka] 24)).alloc (.cells #[.int .i64 (kd b),.int .i64 (nm b),.slice pb (ar b).length kb] 24):=⟨_,rfl⟩
 have HF1 : Hid (Fr [] w w1):=hid (by rw [hw1];exact ((Fr.refl _ _).alloc _).alloc _)
 have HBA1 : Hid (Blk w1 w.heap.size 24 #[.int .i64 (kd a),.int .i64 (nm a),.slice pa (ar a).length ka]):=hid (by rw [hw1];exact (Blk.new _ _ _).alloc _)
 have HBB1 : Hid (Blk w1 (w.heap.size + 1) 24 #[.int .i64 (kd b),.int .i64 (nm b),.slice pb (ar b).length kb]):=hid (by rw [hw1];exact Blk.new_at (by simp))
 clear hv hz ha hb hn
 go_enter Try.func41,Try.ntmps41
 go_wp2_with fail
 rw [← hw1]
 clear hw1
 have hnew:=newsolverG_any N s (.slice ps n kp) w1 (HV.out.keep0 HF1.out) A fs f (by omega) hfA ts0 (by rw [← HN.out];exact HTS0.out) HZ.out (by rw [← HN.out];omega) (by rw [← HN.out];omega)
 rw [← HN.out] at hnew
 refine hnew.mono ?_
 rintro e w2 ⟨rfl,hf2,tv,hS⟩
 obtain ⟨g,hg⟩ : ∃ g,g = w1.heap.size:=⟨_,rfl⟩
 simp only [← hg] at hS ⊢
 have HS:=hid hS
 have hgw : w.heap.size + 1 < g:=by rw [hg];exact HBB1.out.lt
 have HBA2:=hid (HBA1.out.keep hf2 (by simp))
 have HBB2:=hid (HBB1.out.keep hf2 (by simp))
 have HF2:=hid (HF1.out.trans hf2)
 have HA2 : Hid (TyV w2 (fun k => k < g) a [.int .i64 (kd a),.int .i64 (nm a),.slice pa (ar a).length ka]):=hid ((TyV.weak (N':=fun k => k < g) HA.out (fun k hk _ => by omega)).keep0 HF2.out)
 have HB2 : Hid (TyV w2 (fun k => k < g) b [.int .i64 (kd b),.int .i64 (nm b),.slice pb (ar b).length kb]):=hid ((TyV.weak (N':=fun k => k < g) HB.out (fun k hk _ => by omega)).keep0 HF2.out)
 have HV2 : Hid (TysV w2 (fun k => k < g) s (.slice ps n kp)):=hid ((TysV.weak (N':=fun k => k < g) HV.out (fun k hk _ => by omega)).keep0 HF2.out)
 clear hf2 hS hg hnew
 have hown : ∀ k,k < g → k ≠ g ∧ tv.ownBlock ≠ some k:=fun k hk => ⟨by omega,fun e => by have:=(HS.out.l.own k e).1;omega⟩
 have HOWN:=hid hown
 obtain ⟨r1,hr1⟩ : ∃ r1,r1 = Un.add ts0 a:=⟨_,rfl⟩
 obtain ⟨r2,hr2⟩ : ∃ r2,r2 = Un.add r1.1 b:=⟨_,rfl⟩
 have hlen1 : r1.1.length ≤ n + sizes s + size a:=by
  have:=Un.add_len a ts0
  rw [← hr1] at this
  omega
 have hR:=HR.out
 rw [← hr1,← hr2] at hR
 have HAL : Hid (∀ t ∈ r2.1,t.args.length ≤ A):=hid (by rw [hr2];exact Un.add_args A b _ hsb (by rw [hr1];exact Un.add_args A a _ hsa HAL0.out))
 ·skip
  have HA3 : Hid (∀ wx,Fr [] w2 wx → Calls Try.prog 68 #[.pointer (some ⟨g,0,none⟩),.agg #[.int .i64 (kd a),.int .i64 (nm a),.slice pa (ar a).length ka]] wx (AddP (fun _ => True) g n tv r1 wx)):=hid (fun wx hf => by
   rw [hr1]
   exact add_any g n (size a) a (Nat.le_refl _) _ _ tv _ wx (HS.out.keep0 hf) (fun _ _ => trivial) (fun _ _ => trivial) (HA2.out.keep0 hf) (by omega))
  have HB3 : Hid (∀ wx tv1,SolV wx (fun _ => True) g n r1.1 tv1 → SolFr g tv tv1 w2 wx → Calls Try.prog 68 #[.pointer (some ⟨g,0,none⟩),.agg #[.int .i64 (kd b),.int .i64 (nm b),.slice pb (ar b).length kb]] wx (AddP (fun _ => True) g n tv1 r2 wx)):=hid (fun wx tv1 h1 h2 => by
   rw [hr2]
   exact add_any g n (size b) b (Nat.le_refl _) _ _ tv1 _ wx h1 (fun _ _ => trivial) (fun _ _ => trivial) (h2.inn HB2.out (fun k _ hk => HOWN.out k hk)) (by omega))
  have HBX : Hid (∀ wx tv1,SolFr g tv tv1 w2 wx → Blk wx w.heap.size 24 #[.int .i64 (kd a),.int .i64 (nm a),.slice pa (ar a).length ka] ∧ Blk wx (w.heap.size + 1) 24 #[.int .i64 (kd b),.int .i64 (nm b),.slice pb (ar b).length kb]):=hid (fun wx tv1 h => by
   have k1:=HOWN.out w.heap.size (by omega)
   have k2:=HOWN.out (w.heap.size + 1) (by omega)
   exact ⟨(h.blk HBA2.out k1.1 k1.2).1,(h.blk HBB2.out k2.1 k2.2).1⟩)
  have HD : Hid (Fr [] w2 w2.drew):=hid ((Fr.refl [] w2).drew)
  have d0 : w2.drew.cell? ⟨w.heap.size,0,none⟩ = some (.int .i64 (kd a)):=HBA2.out.cell 0
  have d1 : w2.drew.cell? ⟨w.heap.size,1,none⟩ = some (.int .i64 (nm a)):=HBA2.out.cell 1
  have d2 : w2.drew.cell? ⟨w.heap.size,2,none⟩ = some (.slice pa (ar a).length ka):=HBA2.out.cell 2
  have d3 : w2.drew.cell? ⟨w.heap.size + 1,0,none⟩ = some (.int .i64 (kd b)):=HBB2.out.cell 0
  have d4 : w2.drew.cell? ⟨w.heap.size + 1,1,none⟩ = some (.int .i64 (nm b)):=HBB2.out.cell 1
  have d5 : w2.drew.cell? ⟨w.heap.size + 1,2,none⟩ = some (.slice pb (ar b).length kb):=HBB2.out.cell 2
  have l0 : w.heap.size < w2.drew.heap.size:=HBA2.out.lt
  have l1 : w.heap.size + 1 < w2.drew.heap.size:=HBB2.out.lt
  cases hj : Un.joinG fs f n r2.1 [(r1.2,r2.2)] with
  | none => rw [hj] at hR;cases hR
  | some jr =>
   rw [hj] at hR
   have HJ : Hid (∀ wx tv2,SolV wx (fun _ => True) g n r2.1 tv2 → Calls Try.prog 67 #[.pointer (some ⟨g,0,none⟩),.int .i64 r1.2,.int .i64 r2.2] wx (JoinP (fun _ => True) g n tv2 jr wx)):=hid (fun wx tv2 h => joinG_any g n _ A fs f r2.1 r1.2 r2.2 jr tv2 wx h (fun _ _ => trivial) (by omega) HAL.out hfA hj)
   clear hr1 hr2 hlen1 hj hown
   cases jr with
   | none =>
    have HR8 : Hid (r = .error 8):=hid (by simpa using hR.symm)
    clear hR
    have HFIN : Hid (∀ wx tvx,SolFr g tv tvx w2 wx → Fr [] w wx):=hid (fun wx tvx h => ((HF2.out.nil (g :: tv.ownBlock.toList)).trans (h.fr (X:=g :: tv.ownBlock.toList) (by simp) (fun k hk => by simp [hk]))).sub (fun k hk => by
     rcases List.mem_cons.1 hk with rfl | hk
     ·exact .inr (by omega)
     ·have h1 : tv.ownBlock = some k:=by simpa using hk
      have:=(HS.out.l.own k h1).1
      exact .inr (by omega)))
    go_wp2_with fail
    refine wp_region_any (by kernel_rfl) ?_
    change wpAny _ _ _ _ _ _ _ (World.drew _)
    repeat' (first | (refine wpAny_take (i:=0) (v:=.pointer (some ⟨g,0,none⟩)) rfl ?_ ?_ ?_ (fun _ _ _ h => h) (Or.inl ⟨by rfl,?_⟩) ?_;(focus (decide +kernel));(focus (decide +kernel));(focus (decide +kernel));(focus (intro w;go_simp;try with_reducible rfl))) | (refine wpAny_take (i:=1) (v:=.pointer (some ⟨g,0,none⟩)) rfl ?_ ?_ ?_ (fun _ _ _ h => h) (Or.inl ⟨by rfl,?_⟩) ?_;(focus (decide +kernel));(focus (decide +kernel));(focus (decide +kernel));(focus (intro w;go_simp;try with_reducible rfl))) | (refine wpAny_take (i:=4) (v:=.pointer (some ⟨g,0,none⟩)) rfl ?_ ?_ ?_ (fun _ _ _ h => h) (Or.inl ⟨by rfl,?_⟩) ?_;(focus (decide +kernel));(focus (decide +kernel));(focus (decide +kernel));(focus (intro w;go_simp;try with_reducible rfl))) | (refine wpAny_ready (rs:=[7]) ?_ (by simp) ?_;(focus (decide +kernel));refine AllReady.cons rfl (fun K hK => ?_) AllReady.nil;go_simp;(go_at_call 67;(with_reducible refine (HJ.out _ _ HS4.out).mono ?_);rintro e w5 ⟨rfl,hF5⟩;have HF5:=HF4.out.trans hF5;rw [HR8.out];exact ⟨rfl,HFIN.out _ _ HF5,rfl⟩)) | (refine wpAny_ready (rs:=[6]) ?_ (by simp) ?_;(focus (decide +kernel));refine AllReady.cons rfl (fun K hK => ?_) AllReady.nil;go_simp;(go_at_call 68;(with_reducible refine (HB3.out _ _ HS3.out HF3.out).mono ?_);rintro e w4 ⟨rfl,tv2,hS2,hF2⟩;have HS4:=hid hS2;have HF4:=hid (HF3.out.trans hF2);clear hS2 hF2;refine hK _ _ ?_;clear hK K)) | (refine wpAny_ready (rs:=[3]) ?_ (by simp) ?_;(focus (decide +kernel));refine AllReady.cons rfl (fun K hK => ?_) AllReady.nil;go_simp;(go_at_call 68;(with_reducible refine (HA3.out _ HD.out).mono ?_);rintro e w3 ⟨rfl,tv1,hS1,hF1⟩;have HS3:=hid hS1;have HF3:=hid ((SolFr.of_fr (b:=g) (tv:=tv) HD.out).trans hF1);obtain ⟨b3,b4⟩:=HBX.out _ _ HF3.out;have x0:=b4.cell 0;have x1:=b4.cell 1;have x2:=b4.cell 2;have x3:=b4.lt;clear hS1 hF1 b3 b4;refine hK _ _ ?_;clear hK K)) | (refine wpAny_ready (rs:=[2]) ?_ (by simp) ?_;(focus (decide +kernel));refine AllReady.cons rfl (fun K hK => ?_) AllReady.nil;go_simp;(refine hK _ _ ?_;clear hK K)) | (refine wpAny_ready (rs:=[5]) ?_ (by simp) ?_;(focus (decide +kernel));refine AllReady.cons rfl (fun K hK => ?_) AllReady.nil;go_simp;(refine hK _ _ ?_;clear hK K)) | (refine wpAny_ready (rs:=[2,5]) ?_ (by simp) ?_;(focus (decide +kernel));refine AllReady.cons rfl (fun K hK => ?_) (AllReady.cons rfl (fun K hK => ?_) AllReady.nil) <;> (go_simp;(refine hK _ _ ?_;clear hK K))) | (refine wpAny_ready (rs:=[3,5]) ?_ (by simp) ?_;(focus (decide +kernel));refine AllReady.cons rfl (fun K hK => ?_) (AllReady.cons rfl (fun K hK => ?_) AllReady.nil) <;> (go_simp;(first | (go_at_call 68;(with_reducible refine (HA3.out _ HD.out).mono ?_);rintro e w3 ⟨rfl,tv1,hS1,hF1⟩;have HS3:=hid hS1;have HF3:=hid ((SolFr.of_fr (b:=g) (tv:=tv) HD.out).trans hF1);obtain ⟨b3,b4⟩:=HBX.out _ _ HF3.out;have x0:=b4.cell 0;have x1:=b4.cell 1;have x2:=b4.cell 2;have x3:=b4.lt;clear hS1 hF1 b3 b4;refine hK _ _ ?_;clear hK K) | (refine hK _ _ ?_;clear hK K)))))
   | some ts =>
    simp only at hR
    cases hso : Un.sol fs n ts n with
    | none => rw [hso] at hR;cases hR
    | some y =>
     rw [hso] at hR
     have HTL : Hid (Un.tailG fe fa a y.2.2 = some r):=hid hR
     have HSO:=hid hso
     clear hR hso
     go_wp2_with fail
     go_cut [7] (fun s7 wx => s7 = .pointer (some ⟨g,0,none⟩) ∧ Joined g n ts tv w2 wx)
     case first =>
      go_region_law (first | (go_simp;go_at_call 68;(with_reducible refine (HA3.out _ HD.out).mono ?_);rintro e w3 ⟨rfl,tv1,hS1,hF1⟩;have HS3:=hid hS1;have HF3:=hid ((SolFr.of_fr (b:=g) (tv:=tv) HD.out).trans hF1);obtain ⟨b3,b4⟩:=HBX.out _ _ HF3.out;have x0:=b4.cell 0;have x1:=b4.cell 1;have x2:=b4.cell 2;have x3:=b4.lt;clear hS1 hF1 b3 b4) | (go_simp;go_at_call 68;(with_reducible refine (HB3.out _ _ HS3.out HF3.out).mono ?_);rintro e w4 ⟨rfl,tv2,hS2,hF2⟩;have HS4:=hid hS2;have HF4:=hid (HF3.out.trans hF2);clear hS2 hF2) | (go_simp;go_at_call 67;(with_reducible refine (HJ.out _ _ HS4.out).mono ?_);rintro e w5 ⟨rfl,hS5,hF5⟩;have HS5:=hid hS5;have HF5:=hid (HF4.out.trans hF5);clear hS5 hF5))
      all_goals (try go_wp2_with fail)
      all_goals (go_meet;exact ⟨rfl,_,HS5.out,HF5.out⟩)
     case rest =>
      obtain ⟨rfl,tv2,hS5,hF5⟩:=hcut
      obtain ⟨w5,hw5⟩ : ∃ v : World,v = wc:=⟨_,rfl⟩
      subst hw5
      have HS5:=hid hS5
      have HF5:=hid hF5
      clear hS5 hF5 d0 d1 d2 d3 d4 d5 l0 l1 HA3 HB3 HJ HAL HD
      go_wp2_with fail
      refine (solutionA_any g n _ fs ts y.1 y.2.1 y.2.2 tv2 w5 HS5.out (by omega) HSO.out).mono ?_
      rintro e w6 ⟨bo,rfl,hbo,hArr,hF6⟩
      have hlo : y.2.2.length = n:=(Un.sol_len HSO.out).2
      obtain ⟨out,hout⟩ : ∃ out,out = y.2.2:=⟨_,rfl⟩
      rw [← hout] at hlo HTL hArr
      have hF56:=HF5.out.trans hF6
      have HBA6:=hid (HBX.out _ _ hF56).1
      have hfr6 : Fr [] w w6:=((HF2.out.nil (g :: tv.ownBlock.toList)).trans (hF56.fr (X:=g :: tv.ownBlock.toList) (by simp) (fun k hk => by simp [hk]))).sub (fun k hk => by
       rcases List.mem_cons.1 hk with rfl | hk
       ·exact .inr (by omega)
       ·have h1 : tv.ownBlock = some k:=by simpa using hk
        have:=(HS.out.l.own k h1).1
        exact .inr (by omega))
      have HF6:=hid hfr6
      have HT6:=hid ((TyV.weak (N':=fun _ => True) HA.out (fun _ _ _ => trivial)).keep0 hfr6)
      have hvo : TysV w6 (fun _ => True) out (.slice (some ⟨bo,0,none⟩) n n):=by
       have h1:=hArr.tysV (N':=fun _ => True) (by omega) (fun _ _ _ => trivial) trivial
       rwa [hlo] at h1
      have HV6:=hid hvo
      have hat:=hArr.tysAt trivial
      have hoc : n ≤ n:=Nat.le_refl _
      have hom : n ≤ maxLen:=by unfold maxLen;omega
      have HLO:=hid hlo
      clear hlo
      unfold maxLen at hom
      have HAT:=hid hat
      clear hF6 hF56 hfr6 hvo hat hArr hbo HSO HS5 HF5 HBX HS HOWN HBA2 HBB2 HA2 HB2 HV2 HF2 hout
      obtain ⟨d,hd,htl⟩ : ∃ d,Un.depthsOf (out ++ [a]) = some d ∧ (if d.2 = false then some (.error 8) else if (d.1.any fun n => decide (8 < n)) = true then some (.error 2) else (Un.appsG out fe fa out).map .ok) = some r:=by
       have h1:=HTL.out
       unfold Un.tailG at h1
       split at h1
       ·split at h1
        ·cases h1
        ·rename_i d hd;exact ⟨d,hd,h1⟩
       ·cases h1
      have hok : ∀ t ∈ out ++ [a],size t ≤ 90000 ∧ vin (out.length + 1 : Nat) t = true:=by
       have h1:=HTL.out
       unfold Un.tailG at h1
       split at h1
       ·rename_i h2
        intro t ht
        have:=(List.all_eq_true.1 h2) t ht
        simpa using this
       ·cases h1
      have HOK:=hid hok
      have HDP : Hid (∀ v wx,TysV wx (fun _ => True) (out ++ [a]) v → Calls Try.prog 62 #[v] wx (DepthsP d (out ++ [a]).length wx)):=hid (fun v wx hv => depthsof_any _ _ v wx hv (by rw [List.length_append,List.length_singleton,HLO.out];omega) (fun t ht => (hok t ht).1) (fun t ht => by rw [List.length_append,List.length_singleton];exact (hok t ht).2) d hd)
      have HTL2:=hid htl
      clear hok hd htl HTL
      have HD6 : Hid (Fr [] w6 w6.drew):=hid ((Fr.refl [] w6).drew)
      have HE6 : Hid (Fr [] w6 (w6.alloc (.cells #[.int .i64 (kd a),.int .i64 (nm a),.slice pa (ar a).length ka] 24)).drew):=hid (((Fr.refl [] w6).alloc _).drew)
      have HATE:=hid (HAT.out.keep0 HE6.out)
      have HTE:=hid (HT6.out.keep0 HE6.out)
      have HCE : Hid (∀ j u,[Value.int .i64 (kd a),.int .i64 (nm a),.slice pa (ar a).length ka][j]? = some u → (w6.alloc (.cells #[.int .i64 (kd a),.int .i64 (nm a),.slice pa (ar a).length ka] 24)).drew.cell? ((⟨w6.heap.size,0,none⟩ : Addr).add j) = some u):=hid (fun j u hj => by
       rw [addr_add,Nat.zero_add]
       have h1:=(Blk.new w6 24 #[.int .i64 (kd a),.int .i64 (nm a),.slice pa (ar a).length ka]).cell j
       exact h1.trans (by simpa using hj))
      have d0 : w6.drew.cell? ⟨w.heap.size,0,none⟩ = some (.int .i64 (kd a)):=HBA6.out.cell 0
      have d1 : w6.drew.cell? ⟨w.heap.size,1,none⟩ = some (.int .i64 (nm a)):=HBA6.out.cell 1
      have d2 : w6.drew.cell? ⟨w.heap.size,2,none⟩ = some (.slice pa (ar a).length ka):=HBA6.out.cell 2
      have l0 : w.heap.size < w6.drew.heap.size:=HBA6.out.lt
      go_wp2_with fail
      go_cut [8,9,10] (fun s8 s9 s10 wx => s8 = .slice (some ⟨bo,0,none⟩) n n ∧ s10 = .bool d.2 ∧ DepCut s9 d.1 w6 wx)
      case first =>
       go_region_law (first | (go_simp;go_at_call 70;refine (clip_any (some ⟨bo,0,none⟩) n n _ hoc (by unfold maxLen;exact hom)).mono ?_;rintro e wq ⟨rfl,rfl⟩) | (refine step_append_full _ (by rfl) _ _ (by rfl) (fun _ => True) out a bo 0 (by rw [HLO.out];rfl) HATE.out (by rw [HLO.out];omega) ⟨w6.heap.size,0,none⟩ 1 _ _ _ (by rfl) HCE.out HTE.out ?_;intro p8 k8 w8 hv8 hf8;have HV8:=hid hv8;have HF8:=hid (HE6.out.trans hf8);clear hv8 hf8) | (go_simp;go_at_call 62;refine (HDP.out _ _ HV8.out).mono ?_;rintro e w9 ⟨g9,rfl,hf9,hl9,hg9,hI9⟩;have HF9:=hid (HF8.out.trans hf9);have HI9:=hid hI9;have HL9:=hid hl9;clear hf9 hl9 hg9 hI9))
       all_goals (try go_wp2_with fail)
       all_goals (go_meet;exact ⟨rfl,rfl,HF9.out,by have h1:=HI9.out.intsV (by rw [HL9.out,List.length_append,List.length_singleton,HLO.out];omega);rw [HL9.out,List.length_append,List.length_singleton] at h1;exact h1⟩)
      case rest =>
       obtain ⟨rfl,rfl,hf7,hi7⟩:=hcut
       obtain ⟨w7,hw7⟩ : ∃ v : World,v = wc:=⟨_,rfl⟩
       subst hw7
       have HF7:=hid (HF6.out.trans hf7)
       have HI7:=hid hi7
       have HV7:=hid (HV6.out.keep0 hf7)
       clear hf7 hi7 d0 d1 d2 l0 HDP HD6 HE6 HATE HTE HCE HAT HT6 HBA6 HV6
       obtain ⟨dl,df⟩:=d
       cases df with
       | false =>
        have HR8 : Hid (r = .error 8):=hid (by have h1:=HTL2.out;rw [if_pos rfl] at h1;exact (Option.some.inj h1).symm)
        go_wp2_with fail
        refine (refuse_yes 8 _).mono ?_
        rintro e w8 ⟨rfl,rfl⟩
        unfold failE
        go_wp2_with fail
        rw [HR8.out]
        exact ⟨rfl,HF7.out,rfl⟩
       | true =>
        have htl:=HTL2.out
        simp only [Bool.true_eq_false,if_false] at htl
        have HTL3:=hid htl
        clear htl HTL2
        go_wp2_with fail
        refine (refuse_no 8 _).mono ?_
        rintro e w8 ⟨rfl,rfl⟩
        go_wp2_with fail
        refine (containsdeep_any dl _ _ _ HI7.out).mono ?_
        rintro e w8 ⟨rfl,hf8⟩
        have HF8:=hid (HF7.out.trans hf8)
        have HV8:=hid (HV7.out.keep0 hf8)
        clear hf8
        cases hdp : (dl.any fun n => decide (8 < n)) with
        | true =>
         have HR2 : Hid (r = .error 2):=hid (by have h1:=HTL3.out;rw [hdp] at h1;simpa using h1.symm)
         clear hdp
         go_wp2_with fail
         refine (refuse_yes 2 _).mono ?_
         rintro e w9 ⟨rfl,rfl⟩
         unfold failE
         go_wp2_with fail
         rw [HR2.out]
         exact ⟨rfl,HF8.out,rfl⟩
        | false =>
         obtain ⟨rs,hrs,hrr⟩ : ∃ rs,Un.appsG out fe fa out = some rs ∧ r = .ok rs:=by
          have h1:=HTL3.out
          rw [hdp] at h1
          simp only [Bool.false_eq_true,if_false] at h1
          obtain ⟨rs,h2,h3⟩:=Option.map_eq_some_iff.1 h1
          exact ⟨rs,h2,h3.symm⟩
         have HRS:=hid hrs
         have HRR:=hid hrr
         clear hdp hrs hrr HTL3 HI7
         go_wp2_with fail
         refine (refuse_no 2 _).mono ?_
         rintro e w9 ⟨rfl,rfl⟩
         obtain ⟨w9,hw9⟩ : ∃ v : World,v = w8:=⟨_,rfl⟩
         subst hw9
         obtain ⟨j0,hj0,jz0,jz1,jz2⟩:=info_parts info_ty
         have hms : ∀ w1 : World,(Instr.makeSlice 22 (.int .i64 (n : Int)) (.int .i64 (n : Int))).run Try.prog w1 = .ok (.slice (some ⟨w1.heap.size,0,none⟩) n n) (w1.alloc (.cells (madeCells #[.int .i64 0,.int .i64 0,.slice none 0 0] (n * 3)) 24)):=fun w1 => by
          have:=run_makeSlice w1 22 24 j0 _ Try.underlying22 hj0 jz0 .i64 .i64 n n (by omega) (Int.le_refl _) (by rw [jz1];simp;omega) (by rw [jz2];omega) (by omega)
          rw [jz1] at this
          simpa [Value.cells] using this
         clear hj0 jz0 jz1 jz2
         obtain ⟨wa,hwa⟩ : ∃ wa,wa = w9.alloc (.cells (madeCells #[.int .i64 0,.int .i64 0,.slice none 0 0] (n * 3)) 24):=⟨_,rfl⟩
         have HFA : Hid (Fr [] w9 wa.drew):=hid (by rw [hwa];exact ((Fr.refl [] _).alloc _).drew)
         have HFB : Hid (Fr [] w9 w9.drew):=hid ((Fr.refl [] _).drew)
         have HWA:=hid hwa
         have HZ9 : Hid (w.heap.size ≤ w9.heap.size):=hid HF8.out.size
         have HOM : Hid (n ≤ maxLen):=hid (by unfold maxLen;omega)
         clear hwa
         go_wp2_with fail
         go_cut [8,11,12] (fun s8 s11 s12 wx => s8 = .slice (some ⟨bo,0,none⟩) n n ∧ (∃ e0,s11 = .slice (some ⟨e0,0,none⟩) n n ∧ w.heap.size ≤ e0) ∧ (∃ pF,s12 = .func (.func 81) #[] #[.pointer (some ⟨pF,0,none⟩)]) ∧ Fr [] w9 wx)
         case first =>
          go_region_law (first | (go_simp;go_at_call 55;(try rw [← HWA.out]);((with_reducible refine (application0_any (some ⟨bo,0,none⟩) n n H0.out _).mono ?_));rintro en wb ⟨pE,pA,pF,v',rfl,_,hfb⟩;have HFP:=hid hfb;clear hfb))
          all_goals (try go_wp2_with fail)
          ·go_meet
           exact ⟨rfl,⟨_,rfl,HZ9.out⟩,⟨_,rfl⟩,HFA.out.trans HFP.out⟩
          ·go_meet
           have hsz : w9.drew.heap.size = w9.heap.size:=rfl
           have hle:=HFP.out.size
           have hz9:=HZ9.out
           exact ⟨rfl,⟨_,rfl,by omega⟩,⟨_,rfl⟩,(HFB.out.trans HFP.out).alloc _⟩
         case rest =>
          obtain ⟨rfl,⟨e0,rfl,he0⟩,⟨pF,rfl⟩,hfc⟩:=hcut
          obtain ⟨w10,hw10⟩ : ∃ v : World,v = wc:=⟨_,rfl⟩
          subst hw10
          have HFC:=hid (HF8.out.trans hfc)
          have hrl : rs.length = n:=(Un.appsG_len HRS.out).trans HLO.out
          have HRL:=hid hrl
          have HE0:=hid he0
          clear hfc HFA HFB HWA HV8 hrl he0
          go_wp2_with fail
          go_loopw [49] (fun x wr => x = .int .i64 0 ∧ Hid (Fr [] w wr)) (fun x _ => 0)
          case atStart => exact ⟨rfl,HFC⟩
          case round =>
           obtain ⟨rfl,HFC1⟩:=hrel
           have hn0:=H0.out
           have hd2 : decide ((0 : Int) < (n : Int)) = false:=by simp;omega
           have hd3 : decide (0 < n) = false:=by simp;omega
           have hn1 : ¬ (0 : Int) < (n : Int):=by omega
           clear hn0
           go_wp2_with fail
           go_ret
           rw [HRR.out]
           have hrs : rs = []:=List.eq_nil_of_length_eq_zero (HRL.out.trans H0.out)
           rw [hrs]
           refine ⟨HFC1.out,_,rfl,?_⟩
           obtain rfl : n = 0:=H0.out
           exact TysV.nil _ _
end Go.Proofs.Ytcdlnhfgehhkcaa
namespace Go.Proofs.Ytcdlnhfgehhkcaa
open Go.RowKit Go.Lib
open Un (kd nm ar size sizes element over app appG depth asg)
set_option maxRecDepth 100000 in
set_option maxHeartbeats 3200000 in
theorem apply0_any (N : Nat → Prop) (s : List Ty) (v : Value) (t : Ty) (cs : List Value) (w : World) (hv : TysV w N s v) (h0 : s = []) (hl : s.length ≤ 900) (hs : ∀ t ∈ s,size t ≤ 90000) (ht : TyV w N t cs) (hst : size t ≤ 90000) (r : Ty) (hr : Un.applyTo s t = some r) :
  Calls Try.prog 19 #[v,.agg cs.toArray] w (TypP (fun _ => True) r w):=by
 obtain ⟨pt,kt,rfl,_⟩:=ht.shape
 obtain ⟨ps,kp,rfl⟩:=hv.shape
 have HV:=hid hv
 have H0:=hid h0
 clear h0
 have HT:=hid ht
 have HR:=hid hr
 have HS:=hid hs
 obtain ⟨w1,hw1⟩ : ∃ w1,w1 = (w.alloc (.cells #[.int .i64 (kd t),.int .i64 (nm t),.slice pt (ar t).length kt] 24)).alloc (.cells #[.int .i64 0,.int .i64 0,.slice none 0 0] 24):=⟨_,rfl⟩
 have HF1 : Hid (Fr [] w w1):=hid (by rw [hw1];exact ((Fr.refl _ _).alloc _).alloc _)
 have HBT1 : Hid (Blk w1 w.heap.size 24 #[.int .i64 (kd t),.int .i64 (nm t),.slice pt (ar t).length kt]):=hid (by rw [hw1];exact (Blk.new _ _ _).alloc _)
 have HBR1 : Hid (Blk w1 (w.heap.size + 1) 24 #[.int .i64 0,.int .i64 0,.slice none 0 0]):=hid (by rw [hw1];exact Blk.new_at (by simp))
 clear hv ht hr hs
 obtain ⟨wb,hwb⟩ : ∃ wb,Un.wf s = some wb:=by
  have h1:=HR.out
  unfold Un.applyTo at h1
  cases h : Un.wf s with
  | none => rw [h] at h1;cases h1
  | some b => exact ⟨b,rfl⟩
 have HWB:=hid hwb
 clear hwb
 go_enter Try.func19,Try.ntmps19
 go_wp2_with fail
 rw [← hw1]
 clear hw1
 refine (wf_any N s _ w1 (HV.out.keep0 HF1.out) (by omega) HS.out wb HWB.out).mono ?_
 rintro e w2 ⟨rfl,hf2⟩
 have HF2:=hid (HF1.out.trans hf2)
 have HBT2:=hid (HBT1.out.keep hf2 (by simp))
 have HBR2:=hid (HBR1.out.keep hf2 (by simp))
 clear hf2 HBT1 HBR1
 cases wb with
 | false =>
  have HZ : Hid (r = Un.zero):=hid (by
   have h1:=HR.out
   unfold Un.applyTo at h1
   rw [HWB.out] at h1
   simpa using h1.symm)
  have d0:=HBR2.out.cell 0
  have d1:=HBR2.out.cell 1
  have d2:=HBR2.out.cell 2
  have f0:=HBR2.out.frozen 0
  have f1:=HBR2.out.frozen 1
  have f2:=HBR2.out.frozen 2
  have fl:=HBR2.out.lt
  go_wp2_with fail
  have hbx:=HBR2.out.set3 (.int .i64 0) (.int .i64 0) (.slice none 0 0)
  have e0:=hbx.cell 0
  have e1:=hbx.cell 1
  have e2:=hbx.cell 2
  have hf3:=HF2.out.set3 (b:=w.heap.size + 1) (.inr (by omega)) (.int .i64 0) (.int .i64 0) (.slice none 0 0)
  rw [HZ.out]
  exact bodyPost_ret (v:=.agg #[.int .i64 0,.int .i64 0,.slice none 0 0]) (by simp [results,Try.results19,go_sem,e0,e1,e2]) rfl ⟨hf3,_,rfl,TyV.mk (TysV.nil _ _)⟩
 | true =>
  have c0 : w2.cell? ⟨w.heap.size,0,none⟩ = some (.int .i64 (kd t)):=HBT2.out.cell 0
  have c1 : w2.cell? ⟨w.heap.size,1,none⟩ = some (.int .i64 (nm t)):=HBT2.out.cell 1
  have c2 : w2.cell? ⟨w.heap.size,2,none⟩ = some (.slice pt (ar t).length kt):=HBT2.out.cell 2
  have cl : w.heap.size < w2.heap.size:=HBT2.out.lt
  go_wp2_with fail
  refine (over_any N s (by omega) ps kp (size t) t (Nat.le_refl _) _ w2 (HT.out.keep0 HF2.out)).mono ?_
  rintro e w3 ⟨rfl,hf3⟩
  have HF3:=hid (HF2.out.trans hf3)
  have HBT3:=hid (HBT2.out.keep hf3 (by simp))
  have HBR3:=hid (HBR2.out.keep hf3 (by simp))
  clear hf3 c0 c1 c2 cl HBT2 HBR2
  cases e1 : over s.length t with
  | false =>
   have HZ : Hid (r = Un.zero):=hid (by
    have h1:=HR.out
    unfold Un.applyTo at h1
    rw [HWB.out] at h1
    simp only [e1] at h1
    simpa using h1.symm)
   clear e1
   have d0:=HBR3.out.cell 0
   have d1:=HBR3.out.cell 1
   have d2:=HBR3.out.cell 2
   have f0:=HBR3.out.frozen 0
   have f1:=HBR3.out.frozen 1
   have f2:=HBR3.out.frozen 2
   have fl:=HBR3.out.lt
   go_wp2_with fail
   have hbx:=HBR3.out.set3 (.int .i64 0) (.int .i64 0) (.slice none 0 0)
   have e0:=hbx.cell 0
   have e1:=hbx.cell 1
   have e2:=hbx.cell 2
   have hf3:=HF3.out.set3 (b:=w.heap.size + 1) (.inr (by omega)) (.int .i64 0) (.int .i64 0) (.slice none 0 0)
   rw [HZ.out]
   exact bodyPost_ret (v:=.agg #[.int .i64 0,.int .i64 0,.slice none 0 0]) (by simp [results,Try.results19,go_sem,e0,e1,e2]) rfl ⟨hf3,_,rfl,TyV.mk (TysV.nil _ _)⟩
  | true =>
   have HAP : Hid (app s 12 t = some r):=hid (by
    have h1:=HR.out
    unfold Un.applyTo at h1
    rw [HWB.out] at h1
    simp only [e1] at h1
    simpa using h1)
   clear e1
   have r0 : w3.cell? ⟨w.heap.size,0,none⟩ = some (.int .i64 (kd t)):=HBT3.out.cell 0
   have r1 : w3.cell? ⟨w.heap.size,1,none⟩ = some (.int .i64 (nm t)):=HBT3.out.cell 1
   have r2 : w3.cell? ⟨w.heap.size,2,none⟩ = some (.slice pt (ar t).length kt):=HBT3.out.cell 2
   have d0 : w3.drew.cell? ⟨w.heap.size,0,none⟩ = some (.int .i64 (kd t)):=r0
   have d1 : w3.drew.cell? ⟨w.heap.size,1,none⟩ = some (.int .i64 (nm t)):=r1
   have d2 : w3.drew.cell? ⟨w.heap.size,2,none⟩ = some (.slice pt (ar t).length kt):=r2
   have l0 : w.heap.size < w3.heap.size:=HBT3.out.lt
   have m0 : w.heap.size < w3.drew.heap.size:=l0
   have HD3 : Hid (Fr [] w w3.drew):=hid HF3.out.drew
   have HVD : Hid (TysV w3.drew (fun _ => True) s (.slice ps s.length kp)):=hid ((TysV.weak (N':=fun _ => True) HV.out (fun _ _ _ => trivial)).keep0 HD3.out)
   have HTD : Hid (TyV w3.drew (fun _ => True) t [.int .i64 (kd t),.int .i64 (nm t),.slice pt (ar t).length kt]):=hid ((TyV.weak (N':=fun _ => True) HT.out (fun _ _ _ => trivial)).keep0 HD3.out)
   have HSB : Hid (∀ x ∈ s,size x ≤ 100000):=hid (fun x hx => by have:=HS.out x hx;omega)
   have HCE : Hid (∀ wx,Fr [] w3.drew wx → wx.cell? ⟨w.heap.size,0,none⟩ = some (.int .i64 (kd t)) ∧ wx.cell? ⟨w.heap.size,1,none⟩ = some (.int .i64 (nm t)) ∧ wx.cell? ⟨w.heap.size,2,none⟩ = some (.slice pt (ar t).length kt) ∧ w.heap.size < wx.heap.size):=hid (fun wx hf => ⟨by rw [hf.cell m0 (by simp)];exact d0,by rw [hf.cell m0 (by simp)];exact d1,by rw [hf.cell m0 (by simp)];exact d2,Nat.lt_of_lt_of_le m0 hf.size⟩)
   have HRB : Hid (∀ wx,Fr [] w3.drew wx → Blk wx (w.heap.size + 1) 24 #[.int .i64 0,.int .i64 0,.slice none 0 0]):=hid (fun wx hf => HBR3.out.keep (X:=[]) ((Fr.refl [] w3).drew.trans hf) (by simp))
   go_wp2_with fail
   go_region_law (first | (go_simp;go_at_call 55;refine (application0_any _ s.length _ (by rw [H0.out];rfl) _).mono ?_;rintro e w4 ⟨pE,pA,pF,v4,rfl,hA4,hf4⟩;have HA4 : Hid (AppV w4 s v4 pE pA pF):=hid (by rw [H0.out];exact hA4);have HF4:=hid hf4;obtain ⟨q0,q1,q2,q3⟩:=HCE.out w4 hf4;have HT4:=hid (HTD.out.keep0 hf4);clear hA4 hf4) | (go_simp;go_at_call 81;refine (apply_any s _ _ _ _ _ HA4.out HSB.out 12 t r HAP.out (by omega) _ _ (Lat.refl _) HT4.out).mono ?_;rintro e w5 ⟨hf5,ds,rfl,hty⟩;obtain ⟨p5,c5,rfl,_⟩:=hty.shape;have HF5:=hid (HF4.out.trans hf5);have hz4 : w.heap.size + 1 < w4.heap.size:=(HRB.out w4 HF4.out).lt;have HT5:=hid (TyV.weak (N':=fun k => k ≠ w.heap.size + 1) hty (fun k hk h => by (have h3 : w4.heap.size ≤ k:=h);omega));have HB5:=hid (HRB.out w5 HF5.out);have x0:=HB5.out.cell 0;have x1:=HB5.out.cell 1;have x2:=HB5.out.cell 2;have y0:=HB5.out.frozen 0;have y1:=HB5.out.frozen 1;have y2:=HB5.out.frozen 2;have z0:=HB5.out.lt;clear hf5 hty hz4))
   all_goals
    have hbx:=HB5.out.set3 (.int .i64 (kd r)) (.int .i64 (nm r)) (.slice p5 (ar r).length c5)
    have HY0:=hid (hbx.cell 0)
    have HY1:=hid (hbx.cell 1)
    have HY2:=hid (hbx.cell 2)
    have hf6:=(HD3.out.trans HF5.out).set3 (b:=w.heap.size + 1) (.inr (by omega)) (.int .i64 (kd r)) (.int .i64 (nm r)) (.slice p5 (ar r).length c5)
    have HF6:=hid hf6
    have HT6 : Hid (TyV (((w5.setCell ⟨w.heap.size + 1,0,none⟩ (.int .i64 (kd r))).setCell ⟨w.heap.size + 1,1,none⟩ (.int .i64 (nm r))).setCell ⟨w.heap.size + 1,2,none⟩ (.slice p5 (ar r).length c5)) (fun _ => True) r [.int .i64 (kd r),.int .i64 (nm r),.slice p5 (ar r).length c5]):=hid (HT5.out.mono (fun k hk hl => ⟨trivial,by simpa [World.setCell] using hl,set3_block _ _ _ hk⟩))
    clear hbx hf6 x0 x1 x2 y0 y1 y2 z0
    go_wp2_with fail
    have d0:=HY0.out
    have d1:=HY1.out
    have d2:=HY2.out
    exact bodyPost_ret (v:=.agg #[.int .i64 (kd r),.int .i64 (nm r),.slice p5 (ar r).length c5]) (by simp [results,Try.results19,go_sem,d0,d1,d2]) rfl ⟨HF6.out,_,rfl,HT6.out⟩
set_option maxRecDepth 100000 in
set_option maxHeartbeats 3200000 in
theorem unify0_any (A fs f fe fa : Nat) (hA : A ≤ 90000) (hfA : f * A ≤ 800000) (N : Nat → Prop) (s : List Ty) (v : Value) (a b : Ty) (cs ds : List Value) (w : World) (hv : TysV w N s v) (hz : ∀ t ∈ s,size t ≤ A) (hsum : s.length + sizes s + size a + size b ≤ 100000) (h0 : s.length = 0) (hl : s.length ≤ 900) (wb : Bool) (hwf : Un.wf s = some wb) (ha : TyV w N a cs) (hb : TyV w N b ds) (hsa : size a ≤ A) (hsb : size b ≤ A)
  (r : Except Int (List Ty)) (hr : Un.unifyG fs f fe fa s a b = some r) :
  Calls Try.prog 11 #[v,.agg cs.toArray,.agg ds.toArray] w (UnifyP r w):=by
 have hmf:=run_makeUnify1
 obtain ⟨pa,ka,rfl,_⟩:=ha.shape
 obtain ⟨pb,kb,rfl,_⟩:=hb.shape
 obtain ⟨ps,kp,rfl⟩:=hv.shape
 have HV:=hid hv
 have H0:=hid h0
 clear h0
 have HZ:=hid hz
 have HA:=hid ha
 have HB:=hid hb
 have HR:=hid hr
 have HW:=hid hwf
 have HS : Hid (∀ t ∈ s,size t ≤ 90000):=hid (fun t ht => by have:=hz t ht;omega)
 obtain ⟨w1,hw1⟩ : ∃ w1,w1 = (((w.alloc (.cells #[.int .i64 (kd a),.int .i64 (nm a),.slice pa (ar a).length ka] 24)).alloc (.cells #[.int .i64 (kd b),.int .i64 (nm b),.slice pb (ar b).length kb] 24)).alloc (.cells #[.slice none 0 0] 22)).alloc (.cells #[.int .i64 0] 36):=⟨_,rfl⟩
 have HF1 : Hid (Fr [] w w1):=hid (by rw [hw1];exact ((((Fr.refl _ _).alloc _).alloc _).alloc _).alloc _)
 have HBA1 : Hid (Blk w1 w.heap.size 24 #[.int .i64 (kd a),.int .i64 (nm a),.slice pa (ar a).length ka]):=hid (by rw [hw1];exact (((Blk.new _ _ _).alloc _).alloc _).alloc _)
 have HBB1 : Hid (Blk w1 (w.heap.size + 1) 24 #[.int .i64 (kd b),.int .i64 (nm b),.slice pb (ar b).length kb]):=hid (by rw [hw1];exact ((Blk.new_at (by simp)).alloc _).alloc _)
 have HBP1 : Hid (Blk w1 (w.heap.size + 1 + 1) 22 #[.slice none 0 0]):=hid (by rw [hw1];exact (Blk.new_at (by simp)).alloc _)
 have HBQ1 : Hid (Blk w1 (w.heap.size + 1 + 1 + 1) 36 #[.int .i64 0]):=hid (by rw [hw1];exact Blk.new_at (by simp))
 clear hv hz ha hb hr hwf
 go_enter_defers Try.func11,Try.ntmps11
 go_wp2_with fail
 rw [← hw1]
 clear hw1
 refine (wf_any N s _ w1 (HV.out.keep0 HF1.out) (by omega) HS.out wb HW.out).mono ?_
 rintro e w2 ⟨rfl,hf2⟩
 have HF2:=hid (HF1.out.trans hf2)
 have HBA2:=hid (HBA1.out.keep hf2 (by simp))
 have HBB2:=hid (HBB1.out.keep hf2 (by simp))
 have HBP2:=hid (HBP1.out.keep hf2 (by simp))
 have HBQ2:=hid (HBQ1.out.keep hf2 (by simp))
 clear hf2 HBA1 HBB1 HBP1 HBQ1
 cases wb with
 | false =>
  have HE0 : Hid (r = .error 1):=hid (by
   have h1:=HR.out
   unfold Un.unifyG at h1
   rw [HW.out] at h1
   simpa using h1.symm)
  go_wp2_with fail
  refine (refuse_yes 1 _).mono ?_
  rintro e w4 ⟨rfl,rfl⟩
  unfold failE
  go_wp2_with fail
  refine door_panic _ _ _ _ 1 _ _ _ rfl rfl HBP2.out HBQ2.out (by omega) ?_
  rw [HE0.out]
  exact ⟨(HF2.out.setCell (.inr (by simp;omega)) _).setCell (.inr (by simp;omega)) _,rfl⟩
 | true =>
  have c0 : w2.cell? ⟨w.heap.size,0,none⟩ = some (.int .i64 (kd a)):=HBA2.out.cell 0
  have c1 : w2.cell? ⟨w.heap.size,1,none⟩ = some (.int .i64 (nm a)):=HBA2.out.cell 1
  have c2 : w2.cell? ⟨w.heap.size,2,none⟩ = some (.slice pa (ar a).length ka):=HBA2.out.cell 2
  have cl : w.heap.size < w2.heap.size:=HBA2.out.lt
  go_wp2_with fail
  refine (element_any N s (by omega) ps kp a _ w2 (HA.out.keep0 HF2.out)).mono ?_
  rintro e w3 ⟨rfl,hf3⟩
  have HF3:=hid (HF2.out.trans hf3)
  have HBA3:=hid (HBA2.out.keep hf3 (by simp))
  have HBB3:=hid (HBB2.out.keep hf3 (by simp))
  have HBP3:=hid (HBP2.out.keep hf3 (by simp))
  have HBQ3:=hid (HBQ2.out.keep hf3 (by simp))
  clear hf3 c0 c1 c2 cl HBA2 HBB2 HBP2 HBQ2
  have HPAN : Hid (∀ (c : Int) (wx : World),r = .error c → Fr [] w3 wx → UnifyP r w (.returned (.tuple #[.slice none 0 0,.int .i64 c])) ((wx.setCell ⟨w.heap.size + 1 + 1,0,none⟩ (.slice none 0 0)).setCell ⟨w.heap.size + 1 + 1 + 1,0,none⟩ (.int .i64 c))):=hid (fun c wx hc hf => by
   subst hc
   exact ⟨((HF3.out.trans hf).setCell (.inr (by simp;omega)) _).setCell (.inr (by simp;omega)) _,rfl⟩)
  cases e1 : element s.length a with
  | false =>
   have HE1 : Hid (r = .error 1):=hid (by
    have h1:=HR.out
    unfold Un.unifyG at h1
    rw [HW.out] at h1
    simp only at h1
    rw [e1] at h1
    simpa using h1.symm)
   clear e1
   go_wp2_with fail
   refine (refuse_yes 1 _).mono ?_
   rintro e w4 ⟨rfl,rfl⟩
   unfold failE
   go_wp2_with fail
   exact door_panic _ _ _ _ 1 _ _ _ rfl rfl HBP3.out HBQ3.out (by omega) (HPAN.out 1 _ HE1.out (Fr.refl _ _))
  | true =>
   have HE1:=hid e1
   have c0 : w3.cell? ⟨w.heap.size + 1,0,none⟩ = some (.int .i64 (kd b)):=HBB3.out.cell 0
   have c1 : w3.cell? ⟨w.heap.size + 1,1,none⟩ = some (.int .i64 (nm b)):=HBB3.out.cell 1
   have c2 : w3.cell? ⟨w.heap.size + 1,2,none⟩ = some (.slice pb (ar b).length kb):=HBB3.out.cell 2
   have cl : w.heap.size + 1 < w3.heap.size:=HBB3.out.lt
   clear e1
   go_wp2_with fail
   refine (element_any N s (by omega) ps kp b _ w3 (HB.out.keep0 HF3.out)).mono ?_
   rintro e w4 ⟨rfl,hf4⟩
   have HF34:=hid hf4
   have HF4:=hid (HF3.out.trans hf4)
   have HBA4:=hid (HBA3.out.keep hf4 (by simp))
   have HBB4:=hid (HBB3.out.keep hf4 (by simp))
   have HBP4:=hid (HBP3.out.keep hf4 (by simp))
   have HBQ4:=hid (HBQ3.out.keep hf4 (by simp))
   clear hf4 c0 c1 c2 cl HBA3 HBB3 HBP3 HBQ3
   cases e2 : element s.length b with
   | false =>
    have HE2 : Hid (r = .error 1):=hid (by
     have h1:=HR.out
     unfold Un.unifyG at h1
     rw [HW.out] at h1
     simp only at h1
     rw [e2] at h1
     simpa using h1.symm)
    clear e2
    go_wp2_with fail
    refine (refuse_yes 1 _).mono ?_
    rintro e w5 ⟨rfl,rfl⟩
    unfold failE
    go_wp2_with fail
    exact door_panic _ _ _ _ 1 _ _ _ rfl rfl HBP4.out HBQ4.out (by omega) (HPAN.out 1 _ HE2.out HF34.out)
   | true =>
    have HU : Hid (Un.unifiedG fs f fe fa s a b = some r):=hid (by
     have h1:=HR.out
     unfold Un.unifyG at h1
     rw [HW.out] at h1
     simp only at h1
     rw [HE1.out,e2] at h1
     simpa using h1)
    clear e2
    go_wp2_with fail
    refine (refuse_no 1 _).mono ?_
    rintro e w5 ⟨rfl,rfl⟩
    have c0 : w4.cell? ⟨w.heap.size,0,none⟩ = some (.int .i64 (kd a)):=HBA4.out.cell 0
    have c1 : w4.cell? ⟨w.heap.size,1,none⟩ = some (.int .i64 (nm a)):=HBA4.out.cell 1
    have c2 : w4.cell? ⟨w.heap.size,2,none⟩ = some (.slice pa (ar a).length ka):=HBA4.out.cell 2
    have c3 : w4.cell? ⟨w.heap.size + 1,0,none⟩ = some (.int .i64 (kd b)):=HBB4.out.cell 0
    have c4 : w4.cell? ⟨w.heap.size + 1,1,none⟩ = some (.int .i64 (nm b)):=HBB4.out.cell 1
    have c5 : w4.cell? ⟨w.heap.size + 1,2,none⟩ = some (.slice pb (ar b).length kb):=HBB4.out.cell 2
    have cl : w.heap.size < w4.heap.size:=HBA4.out.lt
    have cm : w.heap.size + 1 < w4.heap.size:=HBB4.out.lt
    go_wp2_with fail
    refine (unified0_any A fs f fe fa hA hfA N s _ a b _ _ w4 (HV.out.keep0 HF4.out) HZ.out hsum H0.out hl (HA.out.keep0 HF4.out) (HB.out.keep0 HF4.out) hsa hsb r HU.out).mono ?_
    rintro e w6 ⟨hf6,he6⟩
    have HF46:=hid (HF34.out.trans hf6)
    have HF6:=hid (HF4.out.trans hf6)
    have HBP6:=hid (HBP4.out.keep hf6 (by simp))
    have HBQ6:=hid (HBQ4.out.keep hf6 (by simp))
    have hpl:=HBP4.out.lt
    have hql:=HBQ4.out.lt
    clear hf6 c0 c1 c2 c3 c4 c5 cl cm HBA4 HBB4 HBP4 HBQ4
    cases r with
    | error c =>
     simp only at he6
     subst he6
     unfold failE
     go_wp2_with fail
     exact door_panic _ _ _ _ c _ _ _ rfl rfl HBP6.out HBQ6.out (by omega) (HPAN.out c _ rfl HF46.out)
    | ok rs =>
     obtain ⟨v6,rfl,hv6⟩:=he6
     obtain ⟨p6,k6,rfl⟩:=hv6.shape
     have HV6:=hid hv6
     have x0 : w6.cell? ⟨w.heap.size + 1 + 1,0,none⟩ = some (.slice none 0 0):=HBP6.out.cell 0
     have x1 : w6.frozen? ⟨w.heap.size + 1 + 1,0,none⟩ = false:=HBP6.out.frozen 0
     have x2 : w6.cell? ⟨w.heap.size + 1 + 1 + 1,0,none⟩ = some (.int .i64 0):=HBQ6.out.cell 0
     have x3 : w6.frozen? ⟨w.heap.size + 1 + 1 + 1,0,none⟩ = false:=HBQ6.out.frozen 0
     have xl : w.heap.size + 1 + 1 < w6.heap.size:=HBP6.out.lt
     have xm : w.heap.size + 1 + 1 + 1 < w6.heap.size:=HBQ6.out.lt
     clear hv6
     go_wp2_with fail
     have hp1:=HBP6.out.set 0 (.slice p6 rs.length k6)
     have hp2:=(hp1.other (p:=⟨w.heap.size + 1 + 1 + 1,0,none⟩) (by simp) (.int .i64 0)).cell 0
     have hq1:=((HBQ6.out.other (p:=⟨w.heap.size + 1 + 1,0,none⟩) (by simp) (.slice p6 rs.length k6)).set 0 (.int .i64 0)).cell 0
     have hf7 : Fr [w.heap.size + 1 + 1,w.heap.size + 1 + 1 + 1] w6 ((w6.setCell ⟨w.heap.size + 1 + 1,0,none⟩ (.slice p6 rs.length k6)).setCell ⟨w.heap.size + 1 + 1 + 1,0,none⟩ (.int .i64 0)):=((Fr.refl _ w6).setCell (.inl (by simp)) _).setCell (.inl (by simp)) _
     exact door_ret _ _ _ _ _ _ _ rfl rfl hp2 hq1 ⟨((HF6.out.nil _).trans hf7).sub (fun k hk => .inr (by simp at hk;omega)),_,rfl,TysV.weak (HV6.out.keep hf7 (fun k hk h => by simp only [List.mem_cons,List.not_mem_nil,or_false] at hk;(have h3 : w4.heap.size ≤ k:=h);omega)) (fun k hk h => by (have h3 : w4.heap.size ≤ k:=h);(show w.heap.size ≤ k);omega)⟩
namespace Un
theorem app_none : ∀ (t : Ty),over 0 t = true → ∀ f,app [] (f + 1) t = some t:=by
 intro t h f
 rw [app]
 have key : ∀ t : Ty,over 0 t = true → mapS (fun (_ : Unit) a => appStep [] (app [] f) a) () t = some ((),t):=by
  refine Un.Ty.ind fun k i al ih => ?_
  intro h
  by_cases h9 : k = 9
  ·subst h9
   rw [over_eq,if_pos (show kd (Ty.mk 9 i al) = 9 from rfl)] at h
   simp only [Bool.and_eq_true,decide_eq_true_eq] at h
   omega
  ·rw [over_mk h9] at h
   simp only [Bool.and_eq_true,List.all_eq_true] at h
   rw [mapS,show appStep [] (app [] f) (Ty.mk k i al) = some ((),none) by unfold appStep;rw [if_neg (show ¬ kd (Ty.mk k i al) = 9 from h9)]]
   simp only
   have hl : ∀ l : List Ty,(∀ a ∈ l,a ∈ al) → mapSs (fun (_ : Unit) a => appStep [] (app [] f) a) () l = some ((),l):=by
    intro l
    induction l with
    | nil => intro _;rw [mapSs]
    | cons a l ihl =>
     intro hm
     rw [mapSs,ih a (hm a (by simp)) (h.2 a (hm a (by simp)))]
     simp only
     rw [ihl (fun b hb => hm b (by simp [hb]))]
   rw [hl al (fun a h => h)]
 rw [key t h]
end Un
end Go.Proofs.Ytcdlnhfgehhkcaa
