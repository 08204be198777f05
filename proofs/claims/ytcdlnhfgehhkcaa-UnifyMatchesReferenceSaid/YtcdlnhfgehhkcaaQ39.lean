/- part of the proof -/
import Derived.Test.YtcdlnhfgehhkcaaQ33
import Derived.Test.YtcdlnhfgehhkcaaQ28
set_option linter.unusedVariables false
set_option linter.unusedSimpArgs false
set_option linter.unusedSectionVars false
namespace Go.Proofs.Ytcdlnhfgehhkcaa
open Go.RowKit Go.Lib
open Un (kd nm ar size sizes over occ Res rfind)
set_option maxRecDepth 100000 in
set_option maxHeartbeats 1600000 in
theorem occurs_var (s : List Ty) (v : Value) (k : Int) (t y : Ty) (f : Nat) (cs : List Value) (w : World) (hv : TysV w (fun _ => True) s v) (h : TyV w (fun _ => True) t cs) (hy : rfind s f t = some y) (h9 : kd y = 9) :
  Calls Try.prog 31 #[v,.int .i64 k,.agg cs.toArray] w (LookP (nm y == k) w):=by
 obtain ⟨p,c,rfl,_⟩:=h.shape
 have HT : Hid (TyV w (fun k => k < w.heap.size) t [.int .i64 (kd t),.int .i64 (nm t),.slice p (ar t).length c]):=hid (TyV.weak h (fun k hk _ => hk))
 have HV : Hid (TysV w (fun k => k < w.heap.size) s v):=hid (TysV.weak hv (fun k hk _ => hk))
 have HY:=hid hy
 obtain ⟨w1,hw1⟩ : ∃ w1,w1 = w.alloc (.cells #[.int .i64 (kd t),.int .i64 (nm t),.slice p (ar t).length c] 24):=⟨_,rfl⟩
 have HF1 : Hid (Fr [] w w1):=hid (by rw [hw1];exact (Fr.refl _ _).alloc _)
 have HB1 : Hid (Blk w1 w.heap.size 24 #[.int .i64 (kd t),.int .i64 (nm t),.slice p (ar t).length c]):=hid (by rw [hw1];exact Blk.new _ _ _)
 have e1 : (kd y == 9) = true:=by simp [h9]
 clear hv h hy h9
 go_enter Try.func31,Try.ntmps31
 go_wp2_with fail
 rw [← hw1]
 clear hw1
 refine (findG_any _ s v t y f _ w1 (HV.out.keep0 HF1.out) (HT.out.keep0 HF1.out) HY.out).mono ?_
 rintro e w2 ⟨hf2,ds,rfl,hty⟩
 obtain ⟨p2,c2,rfl,_⟩:=hty.shape
 have HF2:=hid (HF1.out.trans hf2)
 have HB2:=hid (HB1.out.keep hf2 (by simp))
 have HTY:=hid hty
 clear hf2 hty
 have f0:=HB2.out.frozen 0
 have f1:=HB2.out.frozen 1
 have f2:=HB2.out.frozen 2
 have r0 : w2.cell? ⟨w.heap.size,0,none⟩ = some (.int .i64 (kd t)):=HB2.out.cell 0
 have r1 : w2.cell? ⟨w.heap.size,1,none⟩ = some (.int .i64 (nm t)):=HB2.out.cell 1
 have r2 : w2.cell? ⟨w.heap.size,2,none⟩ = some (.slice p (ar t).length c):=HB2.out.cell 2
 have rl : w.heap.size < w2.heap.size:=HB2.out.lt
 go_wp2_with fail
 have HB3:=hid (HB2.out.set3 (.int .i64 (kd y)) (.int .i64 (nm y)) (.slice p2 (ar y).length c2))
 have HF3:=hid (HF2.out.set3 (b:=w.heap.size) (.inr (Nat.le_refl _)) (.int .i64 (kd y)) (.int .i64 (nm y)) (.slice p2 (ar y).length c2))
 have HTY3 : Hid (TyV (((w2.setCell ⟨w.heap.size,0,none⟩ (.int .i64 (kd y))).setCell ⟨w.heap.size,1,none⟩ (.int .i64 (nm y))).setCell ⟨w.heap.size,2,none⟩ (.slice p2 (ar y).length c2)) (fun k => k < w.heap.size) y [.int .i64 (kd y),.int .i64 (nm y),.slice p2 (ar y).length c2]):=hid (InN.mono (fun k hk hl => ⟨hk,by simpa [World.setCell] using hl,set3_block _ _ _ (by omega)⟩) HTY.out)
 generalize ((w2.setCell ⟨w.heap.size,0,none⟩ (.int .i64 (kd y))).setCell ⟨w.heap.size,1,none⟩ (.int .i64 (nm y))).setCell ⟨w.heap.size,2,none⟩ (.slice p2 (ar y).length c2) = w3 at HB3 HF3 HTY3
 clear f0 f1 f2 r0 r1 r2 rl HB2 HF2 HTY
 refine (rvariable_any y _ w3 _ HTY3.out).mono ?_
 rw [e1]
 rintro e w4 ⟨rfl,hf4⟩
 have HF4:=hid (HF3.out.trans hf4)
 have HB4:=hid (HB3.out.keep hf4 (by simp))
 have HTY4:=hid (HTY3.out.keep0 hf4)
 have x1 : w4.cell? ⟨w.heap.size,1,none⟩ = some (.int .i64 (nm y)):=HB4.out.cell 1
 have xl : w.heap.size < w4.heap.size:=HB4.out.lt
 clear hf4 e1
 go_wp2_with fail
 go_ret
 exact ⟨rfl,HF4.out⟩
set_option maxRecDepth 100000 in
set_option maxHeartbeats 1600000 in
theorem occurs_str (s : List Ty) (v : Value) (k : Int) (t y : Ty) (f : Nat) (cs : List Value) (w : World) (hv : TysV w (fun _ => True) s v) (h : TyV w (fun _ => True) t cs) (hy : rfind s f t = some y) (h9 : kd y ≠ 9) (rs : List Ty) (hrl : rs.length = (ar y).length)
  (ihl : ∀ (j : Nat) (x r : Ty),(ar y)[j]? = some x → rs[j]? = some r → ∀ (cs : List Value) (wx : World),Fr [] w wx → TyV wx (fun _ => True) x cs → Calls Try.prog 31 #[v,.int .i64 k,.agg cs.toArray] wx (LookP (occ k r) wx)) :
  Calls Try.prog 31 #[v,.int .i64 k,.agg cs.toArray] w (LookP (rs.any (occ k)) w):=by
 obtain ⟨p,c,rfl,_⟩:=h.shape
 have HT : Hid (TyV w (fun k => k < w.heap.size) t [.int .i64 (kd t),.int .i64 (nm t),.slice p (ar t).length c]):=hid (TyV.weak h (fun k hk _ => hk))
 have HV : Hid (TysV w (fun k => k < w.heap.size) s v):=hid (TysV.weak hv (fun k hk _ => hk))
 have HY:=hid hy
 obtain ⟨w1,hw1⟩ : ∃ w1,w1 = w.alloc (.cells #[.int .i64 (kd t),.int .i64 (nm t),.slice p (ar t).length c] 24):=⟨_,rfl⟩
 have HF1 : Hid (Fr [] w w1):=hid (by rw [hw1];exact (Fr.refl _ _).alloc _)
 have HB1 : Hid (Blk w1 w.heap.size 24 #[.int .i64 (kd t),.int .i64 (nm t),.slice p (ar t).length c]):=hid (by rw [hw1];exact Blk.new _ _ _)
 have e1 : (kd y == 9) = false:=by simp [h9]
 have IH:=hid ihl
 have HRL:=hid hrl
 clear hv h hy h9 ihl hrl
 go_enter Try.func31,Try.ntmps31
 go_wp2_with fail
 rw [← hw1]
 clear hw1
 refine (findG_any _ s v t y f _ w1 (HV.out.keep0 HF1.out) (HT.out.keep0 HF1.out) HY.out).mono ?_
 rintro e w2 ⟨hf2,ds,rfl,hty⟩
 obtain ⟨p2,c2,rfl,_⟩:=hty.shape
 have HF2:=hid (HF1.out.trans hf2)
 have HB2:=hid (HB1.out.keep hf2 (by simp))
 have HTY:=hid hty
 clear hf2 hty
 have f0:=HB2.out.frozen 0
 have f1:=HB2.out.frozen 1
 have f2:=HB2.out.frozen 2
 have r0 : w2.cell? ⟨w.heap.size,0,none⟩ = some (.int .i64 (kd t)):=HB2.out.cell 0
 have r1 : w2.cell? ⟨w.heap.size,1,none⟩ = some (.int .i64 (nm t)):=HB2.out.cell 1
 have r2 : w2.cell? ⟨w.heap.size,2,none⟩ = some (.slice p (ar t).length c):=HB2.out.cell 2
 have rl : w.heap.size < w2.heap.size:=HB2.out.lt
 go_wp2_with fail
 have HB3:=hid (HB2.out.set3 (.int .i64 (kd y)) (.int .i64 (nm y)) (.slice p2 (ar y).length c2))
 have HF3:=hid (HF2.out.set3 (b:=w.heap.size) (.inr (Nat.le_refl _)) (.int .i64 (kd y)) (.int .i64 (nm y)) (.slice p2 (ar y).length c2))
 have HTY3 : Hid (TyV (((w2.setCell ⟨w.heap.size,0,none⟩ (.int .i64 (kd y))).setCell ⟨w.heap.size,1,none⟩ (.int .i64 (nm y))).setCell ⟨w.heap.size,2,none⟩ (.slice p2 (ar y).length c2)) (fun k => k < w.heap.size) y [.int .i64 (kd y),.int .i64 (nm y),.slice p2 (ar y).length c2]):=hid (InN.mono (fun k hk hl => ⟨hk,by simpa [World.setCell] using hl,set3_block _ _ _ (by omega)⟩) HTY.out)
 generalize ((w2.setCell ⟨w.heap.size,0,none⟩ (.int .i64 (kd y))).setCell ⟨w.heap.size,1,none⟩ (.int .i64 (nm y))).setCell ⟨w.heap.size,2,none⟩ (.slice p2 (ar y).length c2) = w3 at HB3 HF3 HTY3
 clear f0 f1 f2 r0 r1 r2 rl HB2 HF2 HTY
 refine (rvariable_any y _ w3 _ HTY3.out).mono ?_
 rw [e1]
 rintro e w4 ⟨rfl,hf4⟩
 have HF4:=hid (HF3.out.trans hf4)
 have HB4:=hid (HB3.out.keep hf4 (by simp))
 have HTY4:=hid (HTY3.out.keep0 hf4)
 have x1 : w4.cell? ⟨w.heap.size,1,none⟩ = some (.int .i64 (nm y)):=HB4.out.cell 1
 have xl : w.heap.size < w4.heap.size:=HB4.out.lt
 clear hf4 e1 x1 xl
 go_wp2_with fail
 obtain ⟨_,_,hsh,ha⟩:=HTY4.out.shape
 have HA : Hid (TysV w4 (fun k => k < w.heap.size) (ar y) (.slice p2 (ar y).length c2)):=hid (by
  simp only [List.cons.injEq,Value.slice.injEq,true_and,and_true] at hsh
  obtain ⟨rfl,rfl⟩:=hsh
  exact ha)
 have hlm:=HA.out.len
 unfold maxLen at hlm
 clear hsh ha HTY4 HTY3
 obtain ⟨l,hl⟩ : ∃ l,l = ar y:=⟨_,rfl⟩
 rw [← hl] at IH HRL HA HB4 hlm
 clear hl
 go_loopw [7] (fun x wr => ∃ j : Nat,x = .int .i64 j ∧ j ≤ l.length ∧ Hid ((rs.take j).any (occ k) = false) ∧ Hid (Fr [] w4 wr) ∧ Hid (Blk wr w.heap.size 24 #[.int .i64 (kd y),.int .i64 (nm y),.slice p2 l.length c2])) (fun x _ => l.length - (RowKit.intOf x).toNat)
 case atStart => exact ⟨0,rfl,Nat.zero_le _,hid (by simp),hid (Fr.refl _ _),HB4⟩
 case round =>
  obtain ⟨j,rfl,hj,HG,HFR,HBR⟩:=hrel
  have b2 : wr.cell? ⟨w.heap.size,2,none⟩ = some (.slice p2 l.length c2):=HBR.out.cell 2
  have bl : w.heap.size < wr.heap.size:=HBR.out.lt
  by_cases hlt : j < l.length
  ·have hd2 : decide ((j : Int) < (l.length : Int)) = true:=by simp;omega
   have hd3 : decide (j < l.length) = true:=by simpa using hlt
   obtain ⟨b,o,rfl,hat⟩ : ∃ b o,p2 = some ⟨b,o,none⟩ ∧ TysAt w4 (fun k => k < w.heap.size) l b o:=by
    rcases HA.out.cases with ⟨h,_⟩ | ⟨_,b,o,cap,heq,_,_,hat⟩
    ·rw [h] at hlt;simp at hlt
    ·simp only [Value.slice.injEq] at heq
     exact ⟨b,o,heq.1,hat⟩
   obtain ⟨p1,c1,k1,hb,g0,g1,g2⟩:=hat.el HFR.out (by simp) (List.getElem?_eq_getElem hlt)
   obtain ⟨x,hx⟩ : ∃ x,x = l[j]:=⟨_,rfl⟩
   have HLX : Hid (l[j]? = some x):=hid (by rw [hx];exact List.getElem?_eq_getElem hlt)
   rw [← hx] at g0 g1 g2 k1
   obtain ⟨r,HR⟩ : ∃ r,Hid (rs[j]? = some r):=⟨_,hid (List.getElem?_eq_getElem (by rw [HRL.out];exact hlt))⟩
   have HTK : Hid (rs.take (j + 1) = rs.take j ++ [r]):=hid (by rw [List.take_add_one,HR.out];rfl)
   have HCL:=hid (IH.out j x r HLX.out HR.out _ wr (HF4.out.trans HFR.out) (TyV.weak k1 (fun _ _ _ => trivial)))
   clear k1 hat hx hb
   go_wp2_with fail
   refine HCL.out.mono ?_
   cases ho : occ k r with
   | true =>
    rintro e w5 ⟨rfl,hf5⟩
    have HF5:=hid ((HF4.out.trans HFR.out).trans hf5)
    have HQ : Hid (rs.any (occ k) = true):=hid (List.any_eq_true.2 ⟨r,List.mem_of_getElem? HR.out,ho⟩)
    clear hf5 g0 g1 g2 b2 bl ho
    go_wp2_with fail
    go_ret
    exact ⟨by rw [HQ.out];rfl,HF5.out⟩
   | false =>
    rintro e w5 ⟨rfl,hf5⟩
    have HF5:=hid (HFR.out.trans hf5)
    have HB5:=hid (HBR.out.keep hf5 (by simp))
    have HO:=hid ho
    clear hf5 g0 g1 g2 b2 bl ho
    go_wp2_with fail
    go_roundw
    case rel => exact ⟨j + 1,by go_num,by omega,hid (by rw [HTK.out,List.any_append,HG.out];simp [HO.out]),HF5,HB5⟩
    case measure => simp [RowKit.intOf];omega
  ·have hd2 : decide ((j : Int) < (l.length : Int)) = false:=by simp;omega
   have hd3 : decide (j < l.length) = false:=by simpa using hlt
   obtain rfl : j = l.length:=by omega
   have HQ : Hid (rs.any (occ k) = false):=hid (by
    have h1:=HG.out
    rwa [List.take_of_length_le (by rw [HRL.out];exact Nat.le_refl _)] at h1)
   go_wp2_with fail
   go_ret
   exact ⟨by rw [HQ.out];rfl,HF4.out.trans HFR.out⟩
theorem occursG_any (s : List Ty) (v : Value) (k : Int) (hs : Un.Okl s) {t z : Ty} (hz : Res s t z) : over s.length t = true → ∀ (t0 y : Ty) (f g : Nat),rfind s f t0 = some y → rfind s g t = some y → ∀ (cs : List Value) (w : World),TysV w (fun _ => True) s v → TyV w (fun _ => True) t0 cs →
  Calls Try.prog 31 #[v,.int .i64 k,.agg cs.toArray] w (LookP (occ k z) w):=by
 induction hz with
 | uns t n x h9 hn hx hu =>
  intro ho t0 y f g hf hg cs w hv h
  have hzk : kd x = 0:=by
   rcases hs x (List.mem_of_getElem? hx) with rfl | h1
   ·rfl
   ·rw [Un.over_uns h1] at hu;cases hu
  obtain ⟨g',hg',hc⟩:=Un.rfind_cases hg
  have hyt : y = t:=by
   rcases hc with ⟨h1,_⟩ | ⟨n',x',_,hn',hx',hc⟩
   ·exact absurd h9 h1
   ·have : n' = n:=by omega
    subst this
    rw [hx] at hx'
    cases hx'
    rcases hc with ⟨_,h1⟩ | ⟨h1,_⟩
    ·exact h1
    ·exact absurd hzk h1
  subst hyt
  rw [Un.occ_eq,if_pos h9]
  exact occurs_var s v k t0 y f cs w hv h hf h9
 | sol t n x r h9 hn hx hu hr ih =>
  intro ho t0 y f g hf hg cs w hv h
  have hxo:=(hs x (List.mem_of_getElem? hx)).resolve_left (fun e => by subst e;cases hu)
  obtain ⟨g',hg',hc⟩:=Un.rfind_cases hg
  rcases hc with ⟨h1,_⟩ | ⟨n',x',_,hn',hx',hc⟩
  ·exact absurd h9 h1
  ·have : n' = n:=by omega
   subst this
   rw [hx] at hx'
   cases hx'
   rcases hc with ⟨h1,_⟩ | ⟨_,h1⟩
   ·exact absurd h1 (Un.over_kd hxo)
   ·exact ih hxo t0 y f g' hf h1 cs w hv h
 | str k' i al rs h9 hl hel ih =>
  intro ho t0 y f g hf hg cs w hv h
  obtain ⟨g',hg',hc⟩:=Un.rfind_cases hg
  have hyt : y = .mk k' i al:=by
   rcases hc with ⟨_,h1⟩ | ⟨_,_,h1,_⟩
   ·exact h1
   ·exact absurd h1 h9
  subst hyt
  rw [Un.occ_mk h9]
  refine occurs_str s v k t0 _ f cs w hv h hf h9 rs hl (fun j x r hx hr cs wx hfx hx2 => ?_)
  have hxm : x ∈ al:=List.mem_of_getElem? hx
  rw [Un.over_mk h9,Bool.and_eq_true,List.all_eq_true] at ho
  obtain ⟨g2,y2,hy2,_⟩:=Un.rfind_res hs (hel j x r hx hr)
  exact ih j x r hx hr (ho.2 x hxm) x y2 g2 g2 hy2 hy2 cs wx (hv.keep0 hfx) hx2
end Go.Proofs.Ytcdlnhfgehhkcaa
