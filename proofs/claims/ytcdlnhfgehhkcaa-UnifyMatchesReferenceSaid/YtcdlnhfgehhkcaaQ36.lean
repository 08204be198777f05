/- part of the proof -/
import Derived.Test.YtcdlnhfgehhkcaaQ35
set_option linter.unusedVariables false
set_option linter.unusedSimpArgs false
set_option linter.unusedSectionVars false
namespace Go.Proofs.Ytcdlnhfgehhkcaa
open Go.RowKit Go.Lib
open Un (kd nm ar size sizes over occ Res setB)
def BoolsB (w : World) (b : Nat) (l : List Bool) : Prop:=Blk w b 4 (l.map Value.bool).toArray
theorem BoolsB.lt {w : World} {b : Nat} {l : List Bool} (h : BoolsB w b l) : b < w.heap.size:=Blk.lt h
theorem BoolsB.keep {w w' : World} {b : Nat} {l : List Bool} (h : BoolsB w b l) {X : List Nat} (hf : Fr X w w') (hx : b ∉ X) : BoolsB w' b l:=Blk.keep h hf hx
theorem BoolsB.el {w : World} {b : Nat} {l : List Bool} (h : BoolsB w b l) {i : Nat} {x : Bool} (hx : l[i]? = some x) : w.cell? ⟨b,i,none⟩ = some (.bool x):=by
 rw [Blk.cell h];simp [hx]
theorem BoolsB.frozen {w : World} {b : Nat} {l : List Bool} (h : BoolsB w b l) (i : Nat) : w.frozen? ⟨b,i,none⟩ = false:=Blk.frozen h i
theorem BoolsB.set {w : World} {b : Nat} {l : List Bool} (h : BoolsB w b l) (i : Nat) (x : Bool) : BoolsB (w.setCell ⟨b,i,none⟩ (.bool x)) b (l.set i x):=by
 have:=Blk.set h i (.bool x)
 unfold BoolsB
 rw [List.map_set]
 simpa using this
theorem BoolsB.made {w : World} {b n : Nat} (h : Blk w b 4 (madeCells #[.bool false] n)) : BoolsB w b (List.replicate n false):=by
 unfold BoolsB
 have e : madeCells #[.bool false] n = ((List.replicate n false).map Value.bool).toArray:=by
  apply Array.toList_inj.1
  rw [toList_madeCells_one]
  simp
 rw [← e];exact h
set_option maxRecDepth 100000 in
set_option maxHeartbeats 1600000 in
theorem settled_any (kn : List Bool) (kb : Nat) : ∀ (m : Nat) (t : Ty),size t ≤ m → over kn.length t = true → ∀ (cs : List Value) (w : World),TyV w (fun _ => True) t cs → BoolsB w kb kn → kn.length ≤ 100000 →
  Calls Try.prog 91 #[.agg cs.toArray,.slice (some ⟨kb,0,none⟩) kn.length kn.length] w (LookP (setB kn t) w):=by
 intro m
 induction m with
 | zero => intro t h;exact absurd (Un.size_pos t) (by omega)
 | succ m ih =>
  intro t hm ho cs w h hk hkl
  obtain ⟨p,c,rfl,ha⟩:=h.shape
  have hlm:=ha.len
  unfold maxLen at hlm
  have HK:=hid hk
  have HT:=hid h
  obtain ⟨w1,hw1⟩ : ∃ w1,w1 = w.alloc (.cells #[.int .i64 (kd t),.int .i64 (nm t),.slice p (ar t).length c] 24):=⟨_,rfl⟩
  have HF1 : Hid (Fr [] w w1):=hid (by rw [hw1];exact (Fr.refl _ _).alloc _)
  have HB1 : Hid (Blk w1 w.heap.size 24 #[.int .i64 (kd t),.int .i64 (nm t),.slice p (ar t).length c]):=hid (by rw [hw1];exact Blk.new _ _ _)
  by_cases h9 : kd t = 9
  ·obtain ⟨n0,n1,n2⟩:=Un.vin_var (Un.vin_of_over _ _ ho) h9
   obtain ⟨n,hn⟩ : ∃ n : Nat,nm t = n:=⟨(nm t).toNat,by omega⟩
   have hnl : n < kn.length:=by omega
   obtain ⟨x,hx⟩ : ∃ x,kn[n]? = some x:=⟨_,List.getElem?_eq_getElem hnl⟩
   rw [Un.setB_var h9 hn hx]
   have e1 : (kd t == 9) = true:=by simp [h9]
   have e4 : decide (n < kn.length) = true:=by simpa using hnl
   have e5 : decide ((n : Int) < (kn.length : Int)) = true:=by simp;omega
   have e6 : (n : Int) < (kn.length : Int):=by omega
   have HN:=hid hn
   have HX:=hid hx
   clear ih hm ho h ha hk n0 n1 n2 h9 hn hx
   go_enter Try.func91,Try.ntmps91
   go_wp2_with fail
   rw [← hw1]
   clear hw1
   refine (rvariable_any t _ w1 _ (HT.out.keep0 HF1.out)).mono ?_
   rw [e1]
   rintro e w2 ⟨rfl,hf2⟩
   have HF2:=hid (HF1.out.trans hf2)
   have HB2:=hid (HB1.out.keep hf2 (by simp))
   have x1 : w2.cell? ⟨w.heap.size,1,none⟩ = some (.int .i64 n):=by rw [← HN.out];exact HB2.out.cell 1
   have xl : w.heap.size < w2.heap.size:=HB2.out.lt
   have k0 : w2.cell? ⟨kb,n,none⟩ = some (.bool x):=(HK.out.keep HF2.out (by simp)).el HX.out
   have kl : kb < w2.heap.size:=(HK.out.keep HF2.out (by simp)).lt
   clear hf2 e1
   go_wp2_with fail
   go_ret
   exact ⟨rfl,HF2.out⟩
  ·have ho2:=ho
   rw [Un.over_eq,if_neg h9,Bool.and_eq_true,List.all_eq_true] at ho2
   have IH : Hid (∀ x ∈ ar t,∀ (cs : List Value) (wx : World),Fr [] w wx → TyV wx (fun _ => True) x cs → Calls Try.prog 91 #[.agg cs.toArray,.slice (some ⟨kb,0,none⟩) kn.length kn.length] wx (LookP (setB kn x) wx)):=hid fun x hx cs wx hf hx2 => ih x (by have:=size_ar hx;omega) (ho2.2 x hx) cs wx hx2 (HK.out.keep hf (by simp)) hkl
   rw [Un.setB_mk h9]
   have e1 : (kd t == 9) = false:=by simp [h9]
   have HVA : Hid (∀ wx,Fr [] w wx → Calls Try.prog 59 #[.agg #[.int .i64 (kd t),.int .i64 (nm t),.slice p (ar t).length c]] wx (LookP (kd t == 9) wx)):=hid (fun wx hf => rvariable_any t _ wx _ (HT.out.keep0 hf))
   have HA:=hid ha
   obtain ⟨l,hl⟩ : ∃ l,l = ar t:=⟨_,rfl⟩
   rw [← hl] at IH HA HVA HB1 hw1 hlm ⊢
   clear ih hm ho ho2 h ha hk h9 hl
   go_enter Try.func91,Try.ntmps91
   go_wp2_with fail
   rw [← hw1]
   clear hw1
   refine (HVA.out w1 HF1.out).mono ?_
   rw [e1]
   rintro e w2 ⟨rfl,hf2⟩
   have HF2:=hid (HF1.out.trans hf2)
   have HB2:=hid (HB1.out.keep hf2 (by simp))
   clear hf2 e1
   go_wp2_with fail
   go_loopw [5] (fun x wr => ∃ j : Nat,x = .int .i64 j ∧ j ≤ l.length ∧ Hid ((l.take j).all (setB kn) = true) ∧ Hid (Fr [] w wr) ∧ Hid (Blk wr w.heap.size 24 #[.int .i64 (kd t),.int .i64 (nm t),.slice p l.length c])) (fun x _ => l.length - (RowKit.intOf x).toNat)
   case atStart => exact ⟨0,rfl,Nat.zero_le _,hid (by simp),HF2,HB2⟩
   case round =>
    obtain ⟨j,rfl,hj,HG,HFR,HBR⟩:=hrel
    have b2 : wr.cell? ⟨w.heap.size,2,none⟩ = some (.slice p l.length c):=HBR.out.cell 2
    have bl : w.heap.size < wr.heap.size:=HBR.out.lt
    by_cases hlt : j < l.length
    ·have hd2 : decide ((j : Int) < (l.length : Int)) = true:=by simp;omega
     have hd3 : decide (j < l.length) = true:=by simpa using hlt
     obtain ⟨b,o,rfl,hat⟩ : ∃ b o,p = some ⟨b,o,none⟩ ∧ TysAt w (fun _ => True) l b o:=by
      rcases HA.out.cases with ⟨h,_⟩ | ⟨_,b,o,cap,heq,_,_,hat⟩
      ·rw [h] at hlt;simp at hlt
      ·simp only [Value.slice.injEq] at heq
       exact ⟨b,o,heq.1,hat⟩
     obtain ⟨p1,c1,k1,hb,g0,g1,g2⟩:=hat.el HFR.out (by simp) (List.getElem?_eq_getElem hlt)
     have HTK : Hid (l.take (j + 1) = l.take j ++ [l[j]]):=hid (List.take_succ_eq_append_getElem hlt)
     obtain ⟨x,hx⟩ : ∃ x,x = l[j]:=⟨_,rfl⟩
     have HMX : Hid (x ∈ l):=hid (by rw [hx];exact List.getElem_mem _)
     rw [← hx] at g0 g1 g2 k1 HTK
     have HCL:=hid (IH.out x HMX.out _ wr HFR.out k1)
     clear k1 hat hx hb
     go_wp2_with fail
     refine HCL.out.mono ?_
     cases hv : setB kn x with
     | false =>
      rintro e w5 ⟨rfl,hf5⟩
      have HF5:=hid (HFR.out.trans hf5)
      have HQ : Hid (l.all (setB kn) = false):=hid (by
       cases hq : l.all (setB kn) with
       | false => rfl
       | true => have h1:=(List.all_eq_true.1 hq) x HMX.out;rw [hv] at h1;cases h1)
      clear hf5 g0 g1 g2 b2 bl hv
      go_wp2_with fail
      go_ret
      exact ⟨by rw [HQ.out];rfl,HF5.out⟩
     | true =>
      rintro e w5 ⟨rfl,hf5⟩
      have HF5:=hid (HFR.out.trans hf5)
      have HB5:=hid (HBR.out.keep hf5 (by simp))
      have HO:=hid hv
      clear hf5 g0 g1 g2 b2 bl hv
      go_wp2_with fail
      go_roundw
      case rel => exact ⟨j + 1,by go_num,by omega,hid (by rw [HTK.out,List.all_append,HG.out];simp [HO.out]),HF5,HB5⟩
      case measure => simp [RowKit.intOf];omega
    ·have hd2 : decide ((j : Int) < (l.length : Int)) = false:=by simp;omega
     have hd3 : decide (j < l.length) = false:=by simpa using hlt
     obtain rfl : j = l.length:=by omega
     have HQ : Hid (l.all (setB kn) = true):=hid (by
      have h1:=HG.out
      rwa [List.take_of_length_le (Nat.le_refl _)] at h1)
     go_wp2_with fail
     go_ret
     exact ⟨by rw [HQ.out];rfl,HFR.out⟩
open Un (kd nm ar size sizes over occ Res setB goodT stepF passF roundsF boundedB)
theorem info_bool : (Try.prog.info? 4).map (fun i => (i.zero,i.size,i.bytes)) = some (some (.bool false),1,1):=by kernel_rfl
set_option maxRecDepth 100000 in
set_option maxHeartbeats 3200000 in
theorem bounded_any (s : List Ty) (v : Value) (w : World) (hv : TysV w (fun _ => True) s v) (hl : s.length ≤ 1000) :
  Calls Try.prog 71 #[v] w (LookP (boundedB s) w):=by
 obtain ⟨ps,kp,rfl⟩:=hv.shape
 obtain ⟨n,hn⟩ : ∃ n,n = s.length:=⟨_,rfl⟩
 have HV:=hid hv
 have HVS:=hid hv
 have HN:=hid hn
 rw [← hn] at HV hl ⊢
 obtain ⟨k0,hk0,kz0,kz1,kz2⟩:=info_parts info_bool
 have hms : ∀ w1 : World,(Instr.makeSlice 74 (.int .i64 (n : Int)) (.int .i64 (n : Int))).run Try.prog w1 = .ok (.slice (some ⟨w1.heap.size,0,none⟩) n n) (w1.alloc (.cells (madeCells #[.bool false] n) 4)):=fun w1 => by
  have:=run_makeSlice w1 74 4 k0 _ Try.underlying74 hk0 kz0 .i64 .i64 n n (by omega) (Int.le_refl _) (by rw [kz1];simp;omega) (by rw [kz2];omega) (by omega)
  rw [kz1] at this
  simpa [Value.cells] using this
 clear hv hn hk0 kz0 kz1 kz2
 go_enter Try.func71,Try.ntmps71
 go_wp2_with fail
 go_loopw [3] (fun x wr => ∃ j : Nat,x = .int .i64 j ∧ j ≤ n ∧ Hid ((s.take j).all (goodT n) = true) ∧ Hid (Fr [] w wr)) (fun x _ => n - (RowKit.intOf x).toNat)
 case atStart => exact ⟨0,rfl,Nat.zero_le _,hid (by simp),hid (Fr.refl _ _)⟩
 case round =>
  obtain ⟨j,rfl,hj,HG,HFR⟩:=hrel
  by_cases hlt : j < n
  ·have hd2 : decide ((j : Int) < (n : Int)) = true:=by simp;omega
   have hd3 : decide (j < n) = true:=by simpa using hlt
   have hd4 : (j : Int) < (n : Int):=by omega
   have hjl : j < s.length:=by rw [← HN.out];exact hlt
   obtain ⟨x,hx⟩ : ∃ x,x = s[j]:=⟨_,rfl⟩
   have hxj : s[j]? = some x:=by rw [hx];exact List.getElem?_eq_getElem hjl
   have HTK : Hid (s.take (j + 1) = s.take j ++ [x]):=hid (by rw [hx];exact List.take_succ_eq_append_getElem hjl)
   have HXJ:=hid hxj
   obtain ⟨b,o,rfl,hat⟩:=TysV.elem HVS.out hxj
   obtain ⟨p1,c1,k1,hb,g0,g1,g2⟩:=hat.el HFR.out (by simp) hxj
   have K1:=hid k1
   have hlm:=k1.shape.choose_spec.choose_spec.2.len
   unfold maxLen at hlm
   have bad : goodT n x = false → boundedB s = false:=fun hb => by
    unfold Un.boundedB
    rw [Bool.and_eq_false_iff]
    left
    cases hq : s.all (goodT s.length) with
    | false => rfl
    | true =>
     have h1:=(List.all_eq_true.1 hq) x (List.mem_of_getElem? HXJ.out)
     rw [← HN.out,hb] at h1
     cases h1
   have next : goodT n x = true → ((s.take (j + 1)).all (goodT n) = true):=fun hb => by rw [HTK.out,List.all_append,HG.out];simp [hb]
   have BAD:=hid bad
   have NEXT:=hid next
   clear k1 hat hx hxj hjl bad next
   by_cases hk : kd x = 0
   ·have hgood : goodT n x = (nm x == 0 && ((ar x).length == 0)):=by
     have h1 : over n x = false:=by
      cases h : over n x with
      | false => rfl
      | true => exact absurd hk (Un.over_kd h)
     unfold Un.goodT Un.unsolved
     rw [h1,hk,Bool.or_false]
     cases ar x <;> simp
    rw [hk] at g0
    by_cases h1 : nm x = 0
    ·rw [h1] at g1
     by_cases h2 : (ar x).length = 0
     ·have HQ:=hid (NEXT.out (by rw [hgood,h1,h2];rfl))
      rw [h2] at g2
      clear hgood h1 h2 hk hlm
      go_wp2_with fail
      go_roundw
      case rel => exact ⟨j + 1,by go_num,by omega,HQ,HFR⟩
      case measure => simp [RowKit.intOf];omega
     ·have HQ:=hid (BAD.out (by rw [hgood];simp [h2]))
      have e2 : decide ((0 : Int) < ((ar x).length : Int)) = true:=by simp;omega
      have e3 : decide (0 < (ar x).length) = true:=by simp;omega
      clear hgood h1 h2 hk
      go_wp2_with fail
      go_ret
      exact ⟨by rw [HQ.out];rfl,HFR.out⟩
    ·have HQ:=hid (BAD.out (by rw [hgood];simp [h1]))
     have e2 : (nm x != 0) = true:=by simpa using h1
     clear hgood h1 hk
     go_wp2_with fail
     go_ret
     exact ⟨by rw [HQ.out];rfl,HFR.out⟩
   ·have e1 : (kd x != 0) = true:=by simpa using hk
    have e2 : (kd x == 0) = false:=by simpa using hk
    have hgood : goodT n x = over n x:=by unfold Un.goodT Un.unsolved;simp [hk]
    have HK:=hid hk
    clear hk hlm
    go_wp2_with fail
    refine (inside_any _ n _ x (Nat.le_refl _) _ wr K1.out).mono ?_
    cases ho : over n x with
    | true =>
     rintro e w2 ⟨rfl,hf2⟩
     have HF2:=hid (HFR.out.trans hf2)
     have HQ:=hid (NEXT.out (by rw [hgood,ho]))
     have g0':=(hf2.cell hb (by simp) _).trans g0
     have g1':=(hf2.cell hb (by simp) _).trans g1
     have g2':=(hf2.cell hb (by simp) _).trans g2
     clear hf2 g0 g1 g2 hgood ho
     go_wp2_with fail
     go_roundw
     case rel => exact ⟨j + 1,by go_num,by omega,HQ,HF2⟩
     case measure => simp [RowKit.intOf];omega
    | false =>
     rintro e w2 ⟨rfl,hf2⟩
     have HF2:=hid (HFR.out.trans hf2)
     have HQ:=hid (BAD.out (by rw [hgood,ho]))
     clear hf2 g0 g1 g2 hgood ho
     go_wp2_with fail
     go_ret
     exact ⟨by rw [HQ.out];rfl,HF2.out⟩
  ·have hd2 : decide ((j : Int) < (n : Int)) = false:=by simp;omega
   have hd3 : decide (j < n) = false:=by simpa using hlt
   obtain rfl : j = n:=by omega
   have HGA : Hid (s.all (goodT j) = true):=hid (by
    have h1:=HG.out
    rwa [List.take_of_length_le (by rw [← HN.out];exact Nat.le_refl _)] at h1)
   go_wp2_with fail
   clear hd2 hd3 HG hlt hj
   obtain ⟨kb,hkb⟩ : ∃ kb,kb = wr.heap.size:=⟨_,rfl⟩
   obtain ⟨wk,hwk⟩ : ∃ wk,wk = wr.alloc (.cells (madeCells #[.bool false] j) 4):=⟨_,rfl⟩
   have HFK : Hid (Fr [] w wk):=hid (by rw [hwk];exact HFR.out.alloc _)
   have HBK : Hid (BoolsB wk kb (roundsF s 0)):=hid (by rw [hwk,hkb,Un.roundsF,← HN.out];exact BoolsB.made (Blk.new _ _ _))
   have HKB : Hid (w.heap.size ≤ kb):=hid (by rw [hkb];exact HFR.out.size)
   rw [← hwk,← hkb]
   clear hwk hkb HFR
   obtain ⟨n,hn⟩ : ∃ n,n = j:=⟨_,rfl⟩
   rw [← hn] at HV HN HGA hl ⊢
   clear hn hms
   go_loopw [5] (fun x wr => ∃ r : Nat,x = .int .i64 r ∧ r ≤ n ∧ Hid (Fr [] w wr) ∧ Hid (BoolsB wr kb (roundsF s r))) (fun x _ => n - (RowKit.intOf x).toNat)
   case atStart => exact ⟨0,rfl,Nat.zero_le _,HFK,HBK⟩
   case round =>
    obtain ⟨r,rfl,hr,HFR,HBR⟩:=hrel
    by_cases hlt : r < n
    ·have hd2 : decide ((r : Int) < (n : Int)) = true:=by simp;omega
     have hd3 : decide (r < n) = true:=by simpa using hlt
     go_wp2_with fail
     go_loopw [6] (fun x wr => ∃ i : Nat,x = .int .i64 i ∧ i ≤ n ∧ Hid (Fr [] w wr) ∧ Hid (BoolsB wr kb (passF s i (roundsF s r)))) (fun x _ => n - (RowKit.intOf x).toNat)
     case atStart => exact ⟨0,rfl,Nat.zero_le _,HFR,HBR⟩
     case round =>
      obtain ⟨i,rfl,hi,HFI,HBI⟩:=hrel
      have hknl : (passF s i (roundsF s r)).length = n:=by rw [Un.passF_len,Un.roundsF_len,HN.out]
      by_cases hit : i < n
      ·have he2 : decide ((i : Int) < (n : Int)) = true:=by simp;omega
       have he3 : decide (i < n) = true:=by simpa using hit
       have he4 : (i : Int) < (n : Int):=by omega
       have HST : Hid (passF s (i + 1) (roundsF s r) = stepF s (passF s i (roundsF s r)) i):=hid (by rw [Un.passF])
       obtain ⟨kn,hkn⟩ : ∃ kn,kn = passF s i (roundsF s r):=⟨_,rfl⟩
       rw [← hkn] at HBI HST hknl
       have hjl : i < s.length:=by rw [← HN.out];exact hit
       obtain ⟨x,hx⟩ : ∃ x,x = s[i]:=⟨_,rfl⟩
       have hxj : s[i]? = some x:=by rw [hx];exact List.getElem?_eq_getElem hjl
       obtain ⟨z,hz⟩ : ∃ z,kn[i]? = some z:=⟨_,List.getElem?_eq_getElem (by omega)⟩
       have HSTEP : Hid (∀ val : Bool,(z || (kd x == 0 || setB kn x)) = val → stepF s kn i = kn.set i val):=hid (fun val hv => by
        unfold Un.stepF
        rw [hxj,hz]
        simp only [Option.getD_some]
        rw [hv])
       obtain ⟨b,o,rfl,hat⟩:=TysV.elem HVS.out hxj
       obtain ⟨p1,c1,k1,hb,g0,g1,g2⟩:=hat.el HFI.out (by simp) hxj
       have K1:=hid k1
       have HGX : Hid (goodT n x = true):=hid ((List.all_eq_true.1 HGA.out) x (List.mem_of_getElem? hxj))
       have q0 : wr.cell? ⟨kb,i,none⟩ = some (.bool z):=HBI.out.el hz
       have ql : kb < wr.heap.size:=HBI.out.lt
       have qf:=HBI.out.frozen i
       clear k1 hat hx hxj hjl hz
       have done : ∀ (wx : World) (val : Bool),Fr [] w wx → BoolsB wx kb kn → (z || (kd x == 0 || setB kn x)) = val → Fr [] w (wx.setCell ⟨kb,i,none⟩ (.bool val)) ∧ BoolsB (wx.setCell ⟨kb,i,none⟩ (.bool val)) kb (passF s (i + 1) (roundsF s r)):=fun wx val hf hb hv =>
        ⟨hf.setCell (.inr HKB.out) _,by rw [HST.out,HSTEP.out val hv];exact hb.set i val⟩
       have DONE:=hid done
       clear done
       cases z with
       | true =>
        obtain ⟨d1,d2⟩:=DONE.out wr true HFI.out HBI.out rfl
        have D1:=hid d1
        have D2:=hid d2
        clear d1 d2
        go_wp2_with fail
        go_roundw
        case rel => exact ⟨i + 1,by go_num,by omega,D1,D2⟩
        case measure => simp [RowKit.intOf];omega
       | false =>
        by_cases hk : kd x = 0
        ·obtain ⟨d1,d2⟩:=DONE.out wr true HFI.out HBI.out (by rw [hk];rfl)
         have D1:=hid d1
         have D2:=hid d2
         rw [hk] at g0
         clear d1 d2 hk
         go_wp2_with fail
         go_roundw
         case rel => exact ⟨i + 1,by go_num,by omega,D1,D2⟩
         case measure => simp [RowKit.intOf];omega
        ·have e2 : (kd x == 0) = false:=by simpa using hk
         have hov : over n x = true:=by
          rcases Un.goodT_zero HGX.out with rfl | h1
          ·exact absurd rfl hk
          ·exact h1
         have HCL:=hid (settled_any kn kb _ x (Nat.le_refl _) (by rw [hknl];exact hov) _ wr K1.out HBI.out (by omega))
         rw [hknl] at HCL
         have HK:=hid hk
         clear hk hov
         go_wp2_with fail
         refine HCL.out.mono ?_
         rintro e w2 ⟨rfl,hf2⟩
         obtain ⟨val,hval⟩ : ∃ val,val = setB kn x:=⟨_,rfl⟩
         rw [← hval]
         have HB2:=hid (HBI.out.keep hf2 (by simp))
         obtain ⟨d1,d2⟩:=DONE.out w2 val (HFI.out.trans hf2) HB2.out (by rw [hval,e2];rfl)
         have D1:=hid d1
         have D2:=hid d2
         clear d1 d2 hf2 g0 g1 g2 q0 ql qf hval
         have ql : kb < w2.heap.size:=HB2.out.lt
         have qf:=HB2.out.frozen i
         obtain ⟨z2,hz2⟩ : ∃ z2,kn[i]? = some z2:=⟨_,List.getElem?_eq_getElem (by omega)⟩
         have q0 : w2.cell? ⟨kb,i,none⟩ = some (.bool z2):=HB2.out.el hz2
         clear hz2
         go_wp2_with fail
         go_roundw
         case rel => exact ⟨i + 1,by go_num,by omega,D1,D2⟩
         case measure => simp [RowKit.intOf];omega
      ·have he2 : decide ((i : Int) < (n : Int)) = false:=by simp;omega
       have he3 : decide (i < n) = false:=by simpa using hit
       obtain rfl : i = n:=by omega
       go_wp2_with fail
       go_roundw
       case rel => exact ⟨r + 1,by go_num,by omega,HFI,hid (by rw [Un.roundsF,← HN.out];exact HBI.out)⟩
       case measure => simp [RowKit.intOf];omega
    ·have hd2 : decide ((r : Int) < (n : Int)) = false:=by simp;omega
     have hd3 : decide (r < n) = false:=by simpa using hlt
     obtain rfl : r = n:=by omega
     go_wp2_with fail
     have hknl : (roundsF s r).length = r:=by rw [Un.roundsF_len,HN.out]
     obtain ⟨kn,hkn⟩ : ∃ kn,kn = roundsF s r:=⟨_,rfl⟩
     have HKN : Hid (kn = roundsF s r):=hid hkn
     rw [← hkn] at HBR hknl
     have HBD : Hid (boundedB s = kn.all id):=hid (by
      unfold Un.boundedB
      rw [← HN.out,← HKN.out,HGA.out]
      rfl)
     clear hkn hd2 hd3 hlt hr
     go_loopw [7] (fun x wr => ∃ i : Nat,x = .int .i64 i ∧ i ≤ r ∧ Hid (Fr [] w wr) ∧ Hid (BoolsB wr kb kn) ∧ Hid ((kn.take i).all id = true)) (fun x _ => r - (RowKit.intOf x).toNat)
     case atStart => exact ⟨0,rfl,Nat.zero_le _,HFR,HBR,hid (by simp)⟩
     case round =>
      obtain ⟨i,rfl,hi,HFI,HBI,HAI⟩:=hrel
      by_cases hit : i < r
      ·have he2 : decide ((i : Int) < (r : Int)) = true:=by simp;omega
       have he3 : decide (i < r) = true:=by simpa using hit
       have he4 : (i : Int) < (r : Int):=by omega
       obtain ⟨z,hz⟩ : ∃ z,kn[i]? = some z:=⟨_,List.getElem?_eq_getElem (by omega)⟩
       have q0 : wr.cell? ⟨kb,i,none⟩ = some (.bool z):=HBI.out.el hz
       have ql : kb < wr.heap.size:=HBI.out.lt
       have HZ:=hid hz
       clear hz
       cases z with
       | true =>
        go_wp2_with fail
        go_roundw
        case rel => exact ⟨i + 1,by go_num,by omega,HFI,HBI,hid (by rw [List.take_add_one,HZ.out,List.all_append,HAI.out];rfl)⟩
        case measure => simp [RowKit.intOf];omega
       | false =>
        have HQ : Hid (boundedB s = false):=hid (by
         rw [HBD.out]
         cases hq : kn.all id with
         | false => rfl
         | true => have h1:=(List.all_eq_true.1 hq) false (List.mem_of_getElem? HZ.out);cases h1)
        go_wp2_with fail
        go_ret
        exact ⟨by rw [HQ.out];rfl,HFI.out⟩
      ·have he2 : decide ((i : Int) < (r : Int)) = false:=by simp;omega
       have he3 : decide (i < r) = false:=by simpa using hit
       obtain rfl : i = r:=by omega
       have HQ : Hid (boundedB s = true):=hid (by
        rw [HBD.out]
        have h1:=HAI.out
        rwa [List.take_of_length_le (by omega)] at h1)
       go_wp2_with fail
       go_ret
       exact ⟨by rw [HQ.out];rfl,HFI.out⟩
end Go.Proofs.Ytcdlnhfgehhkcaa
