/-
 The reference's list of facts: bounds and arguments are added.
-/
import Derived.Test.YtpdhiminpdmpiaaGreatDoorVV
import Derived.Deep.RegionWith
set_option linter.unusedVariables false
set_option linter.unusedSimpArgs false
set_option linter.unusedSectionVars false
set_option linter.unusedVariables false
set_option linter.unusedSimpArgs false
set_option linter.unusedSectionVars false
namespace Go.Proofs.YtpdhiminpdmpiaaGreatDoor
open Go.RowKit Go.Lib
open Px (Txt TyE VarD DataD TraitD BoundD ImplD ArgD ExprD StmtD ArmD FuncD ModD)
theorem Got.drew {F B : Nat} {off : Bool} {w0 w : World} {acc : List Fact} (h : Got F B off w0 w acc) : Got F B off w0 w.drew acc := by
 obtain ⟨⟨v, hI⟩, hF⟩ := h
 exact ⟨⟨v, hI.b, hI.l.keep (X := []) (Fr.refl [] w).drew (by simp), hI.lt, hI.le⟩, hF.trans (FrF.of (Fr.refl [] w).drew (by simp))⟩
/-- what a bound adds, and an argument -/
def gB (off : Bool) (b : BoundD) : List Fact := tF [b.param, b.trait] ++ oF off b.off
def gA (off : Bool) (a : ArgD) : List Fact := tF [a.name] ++ (typesF off [a.type] ++ (nF a.capture ++ oF off a.off))
theorem fBs_fl (off : Bool) : ∀ l : List BoundD, fBs off l = l.flatMap (gB off)
 | [] => rfl
 | b :: r => by rw [fBs, fBs_fl off r, List.flatMap_cons, gB, List.append_assoc]
theorem boundsF_fl (off : Bool) (l : List BoundD) : boundsF off l = nF l.length ++ l.flatMap (gB off) := by rw [boundsF, fBs_fl]
theorem fAs_fl (off : Bool) : ∀ l : List ArgD, fAs off l = l.flatMap (gA off)
 | [] => rfl
 | b :: r => by rw [fAs, fAs_fl off r, List.flatMap_cons, gA]; simp only [List.append_assoc]
theorem argsF_fl (off : Bool) (l : List ArgD) : argsF off l = nF l.length ++ l.flatMap (gA off) := by rw [argsF, fAs_fl]
set_option maxRecDepth 100000 in
set_option maxHeartbeats 1600000 in
/-- bounds: adds bounds -/
theorem Got.bounds {F B : Nat} {off : Bool} {w0 w : World} {acc : List Fact} {sv : Value} {l : List BoundD} (h : Got F B off w0 w acc) (hs : BdsV w F l sv) (hlen : acc.length + (boundsF off l).length ≤ 900000) :
  Calls Tryz.prog 93 #[.pointer (some ⟨F, 0, none⟩), sv] w fun e w' => Got F B off w0 w' (acc ++ boundsF off l) ∧ FrF F w w' ∧ e = .returned (.tuple #[]) := by
 obtain ⟨ps, cs, rfl⟩ := hs.shape
 rw [boundsF_fl, List.length_append, nF_len] at hlen
 have H0 := Lib.hid h.2
 have H : Hid (Got F B off w w acc) := Lib.hid ⟨h.1, FrF.refl _ _⟩
 have HS := Lib.hid hs
 have hFw := h.lt
 clear h hs
 go_enter Tryz.func93, Tryz.ntmps93
 go_wp2_with fail
 refine ((H.out.alloc _).number (n := l.length) (by exact Blk.new _ _ _) (by omega) (by omega)).mono ?_
 rintro e w1 ⟨hG1, hF1, rfl⟩
 have HG1 := Lib.hid hG1
 clear hG1 hF1
 go_wp2_with fail
 go_loopw [4] (fun vi wr => ∃ i : Nat, vi = .int .i64 i ∧ i ≤ l.length ∧ Got F B off w wr ((acc ++ nF l.length) ++ (l.take i).flatMap (gB off))) (fun vi _ => l.length - (RowKit.intOf vi).toNat)
 case atStart => exact ⟨0, rfl, by omega, by simpa using HG1.out⟩
 case round =>
  obtain ⟨i, rfl, hi, hG⟩ := hrel
  by_cases hlt : i < l.length
  ·obtain ⟨t, hx⟩ : ∃ x, l[i]? = some x := ⟨l[i], List.getElem?_eq_getElem hlt⟩
   obtain ⟨g, cap, cur, ds, e, hblk, hgF, hcap, hmax, hrep, hcell⟩ := (HS.out.keep hG.2).at len_boundQ hx
   simp only [Value.slice.injEq] at e
   obtain ⟨rfl, _, rfl⟩ := e
   obtain rfl := bound_full hrep
   have hml := hmax
   unfold maxLen at hml
   have k0 := hcell 0 (by omega)
   have k1 := hcell 1 (by omega)
   have k2 := hcell 2 (by omega)
   simp only [List.getElem?_cons_succ, List.getElem?_cons_zero, Nat.add_zero] at k0 k1 k2
   have K0 := Lib.hid k0
   have K1 := Lib.hid k1
   have K2 := Lib.hid k2
   have hgl := hblk.lt
   have hfl := fl_len (gB off) hx
   obtain ⟨ac, hac⟩ : ∃ ac, ac = (acc ++ nF l.length) ++ (l.take i).flatMap (gB off) := ⟨_, rfl⟩
   have hal : ac.length + (gB off t).length ≤ 900000 := by rw [hac]; simp only [List.length_append, nF_len] at hfl ⊢; omega
   simp only [gB, List.length_append, nF_len] at hal
   rw [← hac] at hG
   have hd : decide ((i : Int) < (l.length : Int)) = true := by simp; omega
   have hd' : decide (i < l.length) = true := by simp; omega
   have hdI : (i : Int) < (l.length : Int) := by omega
   have HG0 := Lib.hid hG
   have HX := Lib.hid hx
   have HAC := Lib.hid hac
   have HB := Lib.hid hblk
   have HREP := Lib.hid hrep
   have hFr := hG.lt
   clear hG hx hac hblk hcell hfl hrep k0 k1 k2
   have c0 := (HB.out.cell _).trans K0.out
   have c1 := (HB.out.cell _).trans K1.out
   go_wp2_with fail
   have HD : Hid (FrF F wr wr.drew) := Lib.hid (FrF.of (Fr.refl [] wr).drew (by simp))
   have HGd : Hid (Got F B off w wr.drew ac) := Lib.hid (HG0.out.drew)
   have HBd : Hid (Blk wr.drew g 164 cur) := Lib.hid HB.out
   go_region_with (go_at_call 89; refine ((HGd.out.alloc _).text (StrV.new (l := [t.param, t.trait]) (by exact hFr) (by rfl) (by rfl)) (by (try simp only [List.length_append, nF_len]); omega)).mono ?_; rintro e w1 ⟨hG1, hF1, rfl⟩; have HF1 := Lib.hid ((HD.out.alloc (.cells #[.string ⟨t.param.toArray⟩, .string ⟨t.trait.toArray⟩] 9)).trans hF1); have HG1 := Lib.hid hG1; have HB_1 := Lib.hid (HF1.out.keep HB.out (by decide) hgF); have hl_HB_1 := HB_1.out.lt; have c2 := (HB_1.out.cell _).trans K2.out; clear hG1 hF1 c0 c1 HGd HBd)
   all_goals
    go_wp2_with fail
    refine (HG1.out.at t.off (by (try simp only [List.length_append, nF_len]); omega)).mono ?_
    rintro e w2 ⟨hG2, hF2, rfl⟩
    have HF2 := Lib.hid (HF1.out.trans hF2)
    have HG2 := Lib.hid hG2
    have HB_2 := Lib.hid (HF2.out.keep HB.out (by decide) hgF)
    have hl_HB_2 := HB_2.out.lt
    clear hG2 hF2 c2 hl_HB_1
    go_wp2_with fail
    go_roundw
    case rel => exact ⟨i + 1, by go_num, by omega, by rw [fl_take _ HX.out, ← List.append_assoc, ← HAC.out]; simpa only [gB, List.append_assoc] using HG2.out⟩
    case measure => simp [RowKit.intOf]; omega
  ·obtain rfl : i = l.length := by omega
   have hd : decide ((l.length : Int) < (l.length : Int)) = false := by simp
   have HG := Lib.hid hG
   clear hG
   go_wp2_with fail
   first | go_end0 | refine bodyPost_ret (results_none rfl _ _ _) rfl ?_
   have e := HG.out
   rw [List.take_length, List.append_assoc, ← boundsF_fl] at e
   exact ⟨⟨e.1, H0.out.trans e.2⟩, e.2, rfl⟩
set_option maxRecDepth 100000 in
set_option maxHeartbeats 1600000 in
/-- args: adds arguments -/
theorem Got.args {F B : Nat} {off : Bool} {w0 w : World} {acc : List Fact} {sv : Value} {l : List ArgD} (h : Got F B off w0 w acc) (hs : AgsV w F l sv) (hlen : acc.length + (argsF off l).length ≤ 900000) :
  Calls Tryz.prog 163 #[.pointer (some ⟨F, 0, none⟩), sv] w fun e w' => Got F B off w0 w' (acc ++ argsF off l) ∧ FrF F w w' ∧ e = .returned (.tuple #[]) := by
 obtain ⟨ps, cs, rfl⟩ := hs.shape
 rw [argsF_fl, List.length_append, nF_len] at hlen
 have H0 := Lib.hid h.2
 have H : Hid (Got F B off w w acc) := Lib.hid ⟨h.1, FrF.refl _ _⟩
 have HS := Lib.hid hs
 have hFw := h.lt
 clear h hs
 go_enter Tryz.func163, Tryz.ntmps163
 go_wp2_with fail
 refine ((H.out.alloc _).number (n := l.length) (by exact Blk.new _ _ _) (by omega) (by omega)).mono ?_
 rintro e w1 ⟨hG1, hF1, rfl⟩
 have HG1 := Lib.hid hG1
 clear hG1 hF1
 go_wp2_with fail
 go_loopw [4] (fun vi wr => ∃ i : Nat, vi = .int .i64 i ∧ i ≤ l.length ∧ Got F B off w wr ((acc ++ nF l.length) ++ (l.take i).flatMap (gA off))) (fun vi _ => l.length - (RowKit.intOf vi).toNat)
 case atStart => exact ⟨0, rfl, by omega, by simpa using HG1.out⟩
 case round =>
  obtain ⟨i, rfl, hi, hG⟩ := hrel
  by_cases hlt : i < l.length
  ·obtain ⟨t, hx⟩ : ∃ x, l[i]? = some x := ⟨l[i], List.getElem?_eq_getElem hlt⟩
   obtain ⟨g, cap, cur, ds, e, hblk, hgF, hcap, hmax, hrep, hcell⟩ := (HS.out.keep hG.2).at len_argQ hx
   simp only [Value.slice.injEq] at e
   obtain ⟨rfl, _, rfl⟩ := e
   obtain ⟨s0, p0, n0, c0v, o0, rfl, hrt⟩ := arg_full hrep
   have HRT := Lib.hid hrt
   clear hrt
   have hml := hmax
   unfold maxLen at hml
   have k0 := hcell 0 (by omega)
   have k1 := hcell 1 (by omega)
   have k2 := hcell 2 (by omega)
   have k3 := hcell 3 (by omega)
   have k4 := hcell 4 (by omega)
   have k5 := hcell 5 (by omega)
   simp only [List.getElem?_cons_succ, List.getElem?_cons_zero, Nat.add_zero] at k0 k1 k2 k3 k4 k5
   have K0 := Lib.hid k0
   have K1 := Lib.hid k1
   have K2 := Lib.hid k2
   have K3 := Lib.hid k3
   have K4 := Lib.hid k4
   have K5 := Lib.hid k5
   have hgl := hblk.lt
   have hfl := fl_len (gA off) hx
   obtain ⟨ac, hac⟩ : ∃ ac, ac = (acc ++ nF l.length) ++ (l.take i).flatMap (gA off) := ⟨_, rfl⟩
   have hal : ac.length + (gA off t).length ≤ 900000 := by rw [hac]; simp only [List.length_append, nF_len] at hfl ⊢; omega
   simp only [gA, List.length_append, nF_len] at hal
   rw [← hac] at hG
   have hd : decide ((i : Int) < (l.length : Int)) = true := by simp; omega
   have hd' : decide (i < l.length) = true := by simp; omega
   have hdI : (i : Int) < (l.length : Int) := by omega
   have HG0 := Lib.hid hG
   have HX := Lib.hid hx
   have HAC := Lib.hid hac
   have HB := Lib.hid hblk
   have HREP := Lib.hid hrep
   have hFr := hG.lt
   clear hG hx hac hblk hcell hfl hrep k0 k1 k2 k3 k4 k5
   have c0 := (HB.out.cell _).trans K0.out
   go_wp2_with fail
   refine ((HG0.out.alloc _).text (StrV.new (l := [t.name]) (by exact hFr) (by rfl) (by rfl)) (by (try simp only [List.length_append, nF_len]); omega)).mono ?_
   rintro e w1 ⟨hG1, hF1, rfl⟩
   have HF1 := Lib.hid (((FrF.refl _ wr).alloc (.cells #[.string ⟨t.name.toArray⟩] 9)).trans hF1)
   have HG1 := Lib.hid hG1
   have HB_1 := Lib.hid (HF1.out.keep HB.out (by decide) hgF)
   have hl_HB_1 := HB_1.out.lt
   clear hG1 hF1 c0
   have c1 := (HB_1.out.cell _).trans K1.out
   have c2 := (HB_1.out.cell _).trans K2.out
   have c3 := (HB_1.out.cell _).trans K3.out
   go_wp2_with fail
   refine ((HG1.out.alloc _).types (TysV.one (t := t.type) HG1.out.lt (HRT.out.keepF HF1.out (no_type fact_ne.2.1 _))) (by (try simp only [List.length_append, nF_len]); omega)).mono ?_
   rintro e w2 ⟨hG2, hF2, rfl⟩
   have HF2 := Lib.hid ((HF1.out.alloc (.cells #[.string s0, .slice p0 n0 c0v, .int .i64 o0] 51)).trans hF2)
   have HG2 := Lib.hid hG2
   have HB_2 := Lib.hid (HF2.out.keep HB.out (by decide) hgF)
   have hl_HB_2 := HB_2.out.lt
   clear hG2 hF2 c1 c2 c3 hl_HB_1
   have c4 := (HB_2.out.cell _).trans K4.out
   go_wp2_with fail
   refine ((HG2.out.alloc _).number (by exact Blk.new _ _ _) (by have := HG2.out.lt; omega) (by (try simp only [List.length_append, nF_len]); omega)).mono ?_
   rintro e w3 ⟨hG3, hF3, rfl⟩
   have HF3 := Lib.hid ((HF2.out.alloc (.cells #[.int .i64 t.capture] 3)).trans hF3)
   have HG3 := Lib.hid hG3
   have HB_3 := Lib.hid (HF3.out.keep HB.out (by decide) hgF)
   have hl_HB_3 := HB_3.out.lt
   clear hG3 hF3 c4 hl_HB_2
   have c5 := (HB_3.out.cell _).trans K5.out
   go_wp2_with fail
   refine (HG3.out.at t.off (by (try simp only [List.length_append, nF_len]); omega)).mono ?_
   rintro e w4 ⟨hG4, hF4, rfl⟩
   have HF4 := Lib.hid (HF3.out.trans hF4)
   have HG4 := Lib.hid hG4
   have HB_4 := Lib.hid (HF4.out.keep HB.out (by decide) hgF)
   have hl_HB_4 := HB_4.out.lt
   clear hG4 hF4 c5 hl_HB_3
   go_wp2_with fail
   go_roundw
   case rel => exact ⟨i + 1, by go_num, by omega, by rw [fl_take _ HX.out, ← List.append_assoc, ← HAC.out]; simpa only [gA, List.append_assoc] using HG4.out⟩
   case measure => simp [RowKit.intOf]; omega
  ·obtain rfl : i = l.length := by omega
   have hd : decide ((l.length : Int) < (l.length : Int)) = false := by simp
   have HG := Lib.hid hG
   clear hG
   go_wp2_with fail
   first | go_end0 | refine bodyPost_ret (results_none rfl _ _ _) rfl ?_
   have e := HG.out
   rw [List.take_length, List.append_assoc, ← argsF_fl] at e
   exact ⟨⟨e.1, H0.out.trans e.2⟩, e.2, rfl⟩
end Go.Proofs.YtpdhiminpdmpiaaGreatDoor
/-
 The reference's list of facts: functions are added, if statements can be.
-/
set_option linter.unusedVariables false
set_option linter.unusedSimpArgs false
set_option linter.unusedSectionVars false
namespace Go.Proofs.YtpdhiminpdmpiaaGreatDoor
open Go.RowKit Go.Lib
open Px (Txt TyE VarD DataD TraitD BoundD ImplD ArgD ExprD StmtD ArmD FuncD ModD)
/-- what statements add, and functions -/
def stsF (off : Bool) (l : List StmtD) : List Fact := nF l.length ++ l.flatMap (fS off)
def fnsF (off : Bool) (l : List FuncD) : List Fact := nF l.length ++ l.flatMap (fF off)
theorem fSs_fl (off : Bool) : ∀ l : List StmtD, fSs off l = l.flatMap (fS off)
 | [] => by rw [fSs]; rfl
 | t :: r => by rw [fSs, fSs_fl off r, List.flatMap_cons]
theorem fMs_fl (off : Bool) : ∀ l : List ArmD, fMs off l = l.flatMap (fM off)
 | [] => by rw [fMs]; rfl
 | t :: r => by rw [fMs, fMs_fl off r, List.flatMap_cons]
theorem fFs_fl (off : Bool) : ∀ l : List FuncD, fFs off l = l.flatMap (fF off)
 | [] => by rw [fFs]; rfl
 | t :: r => by rw [fFs, fFs_fl off r, List.flatMap_cons]
theorem stsF_fl (off : Bool) (l : List StmtD) : stsF off l = nF l.length ++ l.flatMap (fS off) := rfl
theorem fnsF_fl (off : Bool) (l : List FuncD) : fnsF off l = nF l.length ++ l.flatMap (fF off) := rfl
theorem fS_mk (off : Bool) (k : Nat) (x : Txt) (l : List Txt) (t : List TyE) (e : ExprD) (th el : List StmtD) (ar : List ArmD) (fn : List FuncD) (o : Nat) :
  fS off (.mk k x l t e th el ar fn o) = (nF k ++ (nF e.kind ++ nF e.num)) ++ (tF [x, e.op, e.name, e.variant] ++ (tF l ++ (tF e.names ++ (typesF off t ++ (typesF off e.type ++ (stsF off th ++ (stsF off el ++ (nF ar.length ++ (ar.flatMap (fM off) ++ (fnsF off fn ++ (oF off o ++ oF off e.off))))))))))) := by
 rw [fS, fSs_fl, fSs_fl, fMs_fl, fFs_fl]; simp only [stsF, fnsF, List.append_assoc]
theorem fM_mk (off : Bool) (x : Txt) (l : List Txt) (b : List StmtD) (o : Nat) : fM off (.mk x l b o) = tF [x] ++ (tF l ++ (stsF off b ++ oF off o)) := by
 rw [fM, fSs_fl]; simp only [stsF, List.append_assoc]
theorem fF_mk (off : Bool) (x : Txt) (p : List Txt) (bs : List BoundD) (c a : List ArgD) (t : TyE) (b : List StmtD) (o : Nat) :
  fF off (.mk x p bs c a t b o) = tF [x] ++ (tF p ++ (boundsF off bs ++ (argsF off c ++ (argsF off a ++ (typesF off [t] ++ (stsF off b ++ oF off o)))))) := by
 rw [fF, fSs_fl]; simp only [stsF, List.append_assoc]
def StsC (F B : Nat) (off : Bool) (l : List StmtD) : Prop := ∀ (w0 w : World) (acc : List Fact) (sv : Value), Got F B off w0 w acc → StsV w F l sv → acc.length + (stsF off l).length ≤ 900000 →
 Calls Tryz.prog 164 #[.pointer (some ⟨F, 0, none⟩), sv] w fun e w' => Got F B off w0 w' (acc ++ stsF off l) ∧ FrF F w w' ∧ e = .returned (.tuple #[])
def FnsC (F B : Nat) (off : Bool) (l : List FuncD) : Prop := ∀ (w0 w : World) (acc : List Fact) (sv : Value), Got F B off w0 w acc → FnsV w F l sv → acc.length + (fnsF off l).length ≤ 900000 →
 Calls Tryz.prog 94 #[.pointer (some ⟨F, 0, none⟩), sv] w fun e w' => Got F B off w0 w' (acc ++ fnsF off l) ∧ FrF F w w' ∧ e = .returned (.tuple #[])
theorem size_fn {l : List FuncD} {i : Nat} {x : Txt} {p : List Txt} {bs : List BoundD} {c a : List ArgD} {t : TyE} {b : List StmtD} {o : Nat} (h : l[i]? = some (.mk x p bs c a t b o)) : SizeOf.sizeOf b < SizeOf.sizeOf l := by
 have h1 := List.sizeOf_lt_of_mem (List.mem_of_getElem? h)
 rw [FuncD.mk.sizeOf_spec] at h1
 omega
theorem size_st {l : List StmtD} {i : Nat} {k : Nat} {x : Txt} {n : List Txt} {t : List TyE} {e : ExprD} {th el : List StmtD} {ar : List ArmD} {fn : List FuncD} {o : Nat} (h : l[i]? = some (.mk k x n t e th el ar fn o)) :
  SizeOf.sizeOf th < SizeOf.sizeOf l ∧ SizeOf.sizeOf el < SizeOf.sizeOf l ∧ SizeOf.sizeOf ar < SizeOf.sizeOf l ∧ SizeOf.sizeOf fn < SizeOf.sizeOf l := by
 have h1 := List.sizeOf_lt_of_mem (List.mem_of_getElem? h)
 rw [StmtD.mk.sizeOf_spec] at h1
 omega
theorem size_am {l : List ArmD} {i : Nat} {x : Txt} {n : List Txt} {b : List StmtD} {o : Nat} (h : l[i]? = some (.mk x n b o)) : SizeOf.sizeOf b < SizeOf.sizeOf l := by
 have h1 := List.sizeOf_lt_of_mem (List.mem_of_getElem? h)
 rw [ArmD.mk.sizeOf_spec] at h1
 omega
set_option maxRecDepth 100000 in
set_option maxHeartbeats 1600000 in
/-- funcs: adds functions -/
theorem fns_step {F B : Nat} {off : Bool} (m : Nat) (ihS : ∀ l, SizeOf.sizeOf l < m → StsC F B off l) (l : List FuncD) (hm : SizeOf.sizeOf l < m + 1) : FnsC F B off l := by
 intro w0 w acc sv h hs hlen
 obtain ⟨ps, cs, rfl⟩ := hs.shape
 rw [fnsF_fl, List.length_append, nF_len] at hlen
 have H0 := Lib.hid h.2
 have H : Hid (Got F B off w w acc) := Lib.hid ⟨h.1, FrF.refl _ _⟩
 have HS := Lib.hid hs
 have hFw := h.lt
 clear h hs
 go_enter Tryz.func94, Tryz.ntmps94
 go_wp2_with fail
 refine ((H.out.alloc _).number (n := l.length) (by exact Blk.new _ _ _) (by omega) (by omega)).mono ?_
 rintro e w1 ⟨hG1, hF1, rfl⟩
 have HG1 := Lib.hid hG1
 clear hG1 hF1
 go_wp2_with fail
 go_loopw [4] (fun vi wr => ∃ i : Nat, vi = .int .i64 i ∧ i ≤ l.length ∧ Got F B off w wr ((acc ++ nF l.length) ++ (l.take i).flatMap (fF off))) (fun vi _ => l.length - (RowKit.intOf vi).toNat)
 case atStart => exact ⟨0, rfl, by omega, by simpa using HG1.out⟩
 case round =>
  obtain ⟨i, rfl, hi, hG⟩ := hrel
  by_cases hlt : i < l.length
  ·obtain ⟨t, hx⟩ : ∃ x, l[i]? = some x := ⟨l[i], List.getElem?_eq_getElem hlt⟩
   obtain ⟨g, cap, cur, ds, e, hblk, hgF, hcap, hmax, hrep, hcell⟩ := (HS.out.keep hG.2).at len_funcQ hx
   simp only [Value.slice.injEq] at e
   obtain ⟨rfl, _, rfl⟩ := e
   obtain ⟨x, p, bs, c, a, tt, b, o, rfl⟩ : ∃ x p bs c a tt b o, t = FuncD.mk x p bs c a tt b o := by cases t; exact ⟨_, _, _, _, _, _, _, _, rfl⟩
   obtain ⟨p1, c1v, p2, c2v, p3, c3v, p4, c4v, ts, tp, tn, tc, to', p6, c6v, rfl, hT, hP, hBS, hC, hA, hSB⟩ := func_full hrep
   have hsz := size_fn hx
   have HT := Lib.hid hT
   have HP := Lib.hid hP
   have HBS := Lib.hid hBS
   have HC := Lib.hid hC
   have HA := Lib.hid hA
   have HSB := Lib.hid hSB
   clear hT hP hBS hC hA hSB
   have hml := hmax
   unfold maxLen at hml
   have k0 := hcell 0 (by omega)
   have k1 := hcell 1 (by omega)
   have k2 := hcell 2 (by omega)
   have k3 := hcell 3 (by omega)
   have k4 := hcell 4 (by omega)
   have k5 := hcell 5 (by omega)
   have k6 := hcell 6 (by omega)
   have k7 := hcell 7 (by omega)
   have k8 := hcell 8 (by omega)
   have k9 := hcell 9 (by omega)
   simp only [fcells, List.getElem?_cons_succ, List.getElem?_cons_zero, Nat.add_zero] at k0 k1 k2 k3 k4 k5 k6 k7 k8 k9
   have K0 := Lib.hid k0
   have K1 := Lib.hid k1
   have K2 := Lib.hid k2
   have K3 := Lib.hid k3
   have K4 := Lib.hid k4
   have K5 := Lib.hid k5
   have K6 := Lib.hid k6
   have K7 := Lib.hid k7
   have K8 := Lib.hid k8
   have K9 := Lib.hid k9
   have hgl := hblk.lt
   have hfl := fl_len (fF off) hx
   obtain ⟨ac, hac⟩ : ∃ ac, ac = (acc ++ nF l.length) ++ (l.take i).flatMap (fF off) := ⟨_, rfl⟩
   have hal : ac.length + (fF off (.mk x p bs c a tt b o)).length ≤ 900000 := by rw [hac]; simp only [List.length_append, nF_len] at hfl ⊢; omega
   simp only [fF_mk, List.length_append, nF_len] at hal
   rw [← hac] at hG
   have hd : decide ((i : Int) < (l.length : Int)) = true := by simp; omega
   have hd' : decide (i < l.length) = true := by simp; omega
   have hdI : (i : Int) < (l.length : Int) := by omega
   have HG0 := Lib.hid hG
   have HX := Lib.hid hx
   have HAC := Lib.hid hac
   have HB := Lib.hid hblk
   have HREP := Lib.hid hrep
   have hFr := hG.lt
   clear hG hx hac hblk hcell hfl hrep k0 k1 k2 k3 k4 k5 k6 k7 k8 k9
   have c0 := (HB.out.cell _).trans K0.out
   go_wp2_with fail
   refine ((HG0.out.alloc _).text (StrV.new (l := [x]) (by exact hFr) (by rfl) (by rfl)) (by (try simp only [List.length_append, nF_len]); omega)).mono ?_
   rintro e w1 ⟨hG1, hF1, rfl⟩
   have HF1 := Lib.hid (((FrF.refl _ wr).alloc (.cells #[.string ⟨x.toArray⟩] 9)).trans hF1)
   have HG1 := Lib.hid hG1
   have HB_1 := Lib.hid (HF1.out.keep HB.out (by decide) hgF)
   have hl_HB_1 := HB_1.out.lt
   clear hG1 hF1 c0
   have c1 := (HB_1.out.cell _).trans K1.out
   go_wp2_with fail
   refine (HG1.out.text (HP.out.keep HF1.out) (by (try simp only [List.length_append, nF_len]); omega)).mono ?_
   rintro e w2 ⟨hG2, hF2, rfl⟩
   have HF2 := Lib.hid (HF1.out.trans hF2)
   have HG2 := Lib.hid hG2
   have HB_2 := Lib.hid (HF2.out.keep HB.out (by decide) hgF)
   have hl_HB_2 := HB_2.out.lt
   clear hG2 hF2 c1 hl_HB_1
   have c2 := (HB_2.out.cell _).trans K2.out
   go_wp2_with fail
   refine (HG2.out.bounds (HBS.out.keep HF2.out) (by (try simp only [List.length_append, nF_len]); omega)).mono ?_
   rintro e w3 ⟨hG3, hF3, rfl⟩
   have HF3 := Lib.hid (HF2.out.trans hF3)
   have HG3 := Lib.hid hG3
   have HB_3 := Lib.hid (HF3.out.keep HB.out (by decide) hgF)
   have hl_HB_3 := HB_3.out.lt
   clear hG3 hF3 c2 hl_HB_2
   have c3 := (HB_3.out.cell _).trans K3.out
   go_wp2_with fail
   refine (HG3.out.args (HC.out.keep HF3.out) (by (try simp only [List.length_append, nF_len]); omega)).mono ?_
   rintro e w4 ⟨hG4, hF4, rfl⟩
   have HF4 := Lib.hid (HF3.out.trans hF4)
   have HG4 := Lib.hid hG4
   have HB_4 := Lib.hid (HF4.out.keep HB.out (by decide) hgF)
   have hl_HB_4 := HB_4.out.lt
   clear hG4 hF4 c3 hl_HB_3
   have c4 := (HB_4.out.cell _).trans K4.out
   go_wp2_with fail
   refine (HG4.out.args (HA.out.keep HF4.out) (by (try simp only [List.length_append, nF_len]); omega)).mono ?_
   rintro e w5 ⟨hG5, hF5, rfl⟩
   have HF5 := Lib.hid (HF4.out.trans hF5)
   have HG5 := Lib.hid hG5
   have HB_5 := Lib.hid (HF5.out.keep HB.out (by decide) hgF)
   have hl_HB_5 := HB_5.out.lt
   clear hG5 hF5 c4 hl_HB_4
   have c5 := (HB_5.out.cell _).trans K5.out
   have c6 := (HB_5.out.cell _).trans K6.out
   have c7 := (HB_5.out.cell _).trans K7.out
   go_wp2_with fail
   refine ((HG5.out.alloc _).types (TysV.one (t := tt) HG5.out.lt (HT.out.keepF HF5.out (no_type fact_ne.2.1 _))) (by (try simp only [List.length_append, nF_len]); omega)).mono ?_
   rintro e w6 ⟨hG6, hF6, rfl⟩
   have HF6 := Lib.hid ((HF5.out.alloc (.cells #[.string ts, .slice tp tn tc, .int .i64 to'] 51)).trans hF6)
   have HG6 := Lib.hid hG6
   have HB_6 := Lib.hid (HF6.out.keep HB.out (by decide) hgF)
   have hl_HB_6 := HB_6.out.lt
   clear hG6 hF6 c5 c6 c7 hl_HB_5
   have c8 := (HB_6.out.cell _).trans K8.out
   go_wp2_with fail
   refine (ihS b (by omega) _ _ _ _ HG6.out (HSB.out.keep HF6.out) (by (try simp only [List.length_append, nF_len]); omega)).mono ?_
   rintro e w7 ⟨hG7, hF7, rfl⟩
   have HF7 := Lib.hid (HF6.out.trans hF7)
   have HG7 := Lib.hid hG7
   have HB_7 := Lib.hid (HF7.out.keep HB.out (by decide) hgF)
   have hl_HB_7 := HB_7.out.lt
   clear hG7 hF7 c8 hl_HB_6
   have c9 := (HB_7.out.cell _).trans K9.out
   go_wp2_with fail
   refine (HG7.out.at o (by (try simp only [List.length_append, nF_len]); omega)).mono ?_
   rintro e w8 ⟨hG8, hF8, rfl⟩
   have HF8 := Lib.hid (HF7.out.trans hF8)
   have HG8 := Lib.hid hG8
   have HB_8 := Lib.hid (HF8.out.keep HB.out (by decide) hgF)
   have hl_HB_8 := HB_8.out.lt
   clear hG8 hF8 c9 hl_HB_7
   go_wp2_with fail
   go_roundw
   case rel => exact ⟨i + 1, by go_num, by omega, by rw [fl_take _ HX.out, ← List.append_assoc, ← HAC.out]; simpa only [fF_mk, List.append_assoc] using HG8.out⟩
   case measure => simp [RowKit.intOf]; omega
  ·obtain rfl : i = l.length := by omega
   have hd : decide ((l.length : Int) < (l.length : Int)) = false := by simp
   have HG := Lib.hid hG
   clear hG
   go_wp2_with fail
   first | go_end0 | refine bodyPost_ret (results_none rfl _ _ _) rfl ?_
   have e := HG.out
   rw [List.take_length, List.append_assoc, ← fnsF_fl] at e
   exact ⟨⟨e.1, H0.out.trans e.2⟩, e.2, rfl⟩
end Go.Proofs.YtpdhiminpdmpiaaGreatDoor
