/-
 Walks of commentEnd and gapEnd.
-/
import Derived.Test.YtpdhiminpdmpiaaGreatDoorVW1
import Derived.Test.YtpdhiminpdmpiaaGreatDoorShelf
import Derived.WalkSpells
import Derived.Lib.IndexLaws
set_option linter.unusedVariables false
set_option linter.unusedSimpArgs false
set_option linter.unusedSectionVars false
set_option linter.unusedVariables false
set_option linter.unusedSimpArgs false
set_option linter.unusedSectionVars false
namespace Go.Proofs.YtpdhiminpdmpiaaGreatDoor
open Go.RowKit Go.Lib
theorem gap_true_none : ∀ (l : List UInt8), indexByte l 10 = -1 → Lx.gapLen true l = l.length
 | [], _ => rfl
 | c :: r, h => by
  unfold indexByte at h
  split at h
  ·omega
  ·split at h
   ·rename_i h1 h2
    have := gap_true_none r (by simpa using h2)
    unfold Lx.gapLen
    rw [if_neg h1, this]; rfl
   ·have := indexByte_ge r 10
    omega
theorem gap_true_some : ∀ (l : List UInt8) (n : Nat), indexByte l 10 = n → n < l.length ∧ Lx.gapLen true l = n + Lx.gapLen false (l.drop n)
 | [], n, h => by simp [indexByte] at h
 | c :: r, n, h => by
  unfold indexByte at h
  split at h
  ·rename_i h1
   have hc : c = 10 := by simpa using h1
   subst hc
   have hn : n = 0 := by omega
   subst hn
   have hb : Lx.blankB 10 = true := by decide
   simp [Lx.gapLen, hb]
  ·split at h
   ·omega
   ·rename_i h1 h2
    have hr := indexByte_ge r 10
    have h2' : indexByte r 10 ≠ -1 := by simpa using h2
    obtain ⟨m, hm⟩ : ∃ m : Nat, indexByte r 10 = m := ⟨(indexByte r 10).toNat, by omega⟩
    obtain ⟨a, b⟩ := gap_true_some r m hm
    have : n = m + 1 := by omega
    subst this
    refine ⟨by simp; omega, ?_⟩
    simp only [Lx.gapLen, List.drop_succ_cons]
    rw [if_neg h1, b]; omega
theorem gap_hash (c : UInt8) (r : List UInt8) (h : c = 35) : Lx.gapLen false (c :: r) = Lx.gapLen true (c :: r) := by
 subst h
 have h1 : Lx.blankB 35 = false := by decide
 simp [Lx.gapLen, h1]
theorem gap_run : ∀ (l : List UInt8), Lx.gapLen false l = Lx.runLen Lx.blankB l + Lx.gapLen false (l.drop (Lx.runLen Lx.blankB l))
 | [] => rfl
 | c :: r => by
  by_cases h : Lx.blankB c = true
  ·have := gap_run r
   simp only [Lx.gapLen, Lx.runLen, h, if_true, List.drop_succ_cons]
   omega
  ·simp [Lx.runLen, h]
theorem gap_other (c : UInt8) (r : List UInt8) (h1 : Lx.blankB c = false) (h2 : c ≠ 35) : Lx.gapLen false (c :: r) = 0 := by
 simp [Lx.gapLen, h1, h2]
def gapEndF (s : ByteArray) (k : Nat) : Nat := k + Lx.gapLen false (s.data.toList.drop k)
def comEndF (s : ByteArray) (k : Nat) : Nat := k + (if indexByte (s.data.toList.drop k) 10 = -1 then s.size - k else (indexByte (s.data.toList.drop k) 10).toNat)
theorem gapLen_le : ∀ (f : Bool) (l : List UInt8), Lx.gapLen f l ≤ l.length
 | _, [] => by simp [Lx.gapLen]
 | false, c :: r => by
  have h1 := gapLen_le false r
  have h2 := gapLen_le true r
  simp only [Lx.gapLen, List.length_cons]
  repeat' split
  all_goals omega
 | true, c :: r => by
  have h1 := gapLen_le false r
  have h2 := gapLen_le true r
  simp only [Lx.gapLen, List.length_cons]
  repeat' split
  all_goals omega
theorem runLen_le (p : UInt8 → Bool) : ∀ (l : List UInt8), Lx.runLen p l ≤ l.length
 | [] => by simp [Lx.runLen]
 | c :: r => by
  have := runLen_le p r
  simp only [Lx.runLen, List.length_cons]
  split <;> omega
theorem gapEndF_le (s : ByteArray) (k : Nat) (h : k ≤ s.size) : gapEndF s k ≤ s.size := by
 have := gapLen_le false (s.data.toList.drop k)
 simp at this; unfold gapEndF; omega
theorem runEndF_le (p : UInt8 → Bool) (s : ByteArray) (k : Nat) (h : k ≤ s.size) : runEndF p s k ≤ s.size := by
 have := runLen_le p (s.data.toList.drop k)
 simp at this; unfold runEndF; omega
theorem runEndF_ge (p : UInt8 → Bool) (s : ByteArray) (k : Nat) : k ≤ runEndF p s k := by unfold runEndF; omega
theorem drop_ne (s : ByteArray) (k : Nat) (h : k < s.size) : (s.data.toList.drop k).length = s.size - k := by simp
/-- a comment is stepped over -/
theorem gapEndF_hash (s : ByteArray) (k : Nat) (h : k < s.size) (hc : s[k] = 35) : gapEndF s k = gapEndF s (comEndF s k) ∧ k < comEndF s k ∧ comEndF s k ≤ s.size := by
 have e := drop_cons s k h
 have hg : Lx.gapLen false (s.data.toList.drop k) = Lx.gapLen true (s.data.toList.drop k) := by rw [e]; exact gap_hash _ _ hc
 have hl := drop_ne s k h
 unfold comEndF gapEndF
 rw [hg]
 by_cases hi : indexByte (s.data.toList.drop k) 10 = -1
 ·rw [if_pos hi, gap_true_none _ hi, hl, List.drop_of_length_le (by simp; omega)]
  simp [Lx.gapLen]; omega
 ·have hr := indexByte_ge (s.data.toList.drop k) 10
  obtain ⟨m, hm⟩ : ∃ m : Nat, indexByte (s.data.toList.drop k) 10 = m := ⟨(indexByte (s.data.toList.drop k) 10).toNat, by omega⟩
  obtain ⟨a, b⟩ := gap_true_some _ m hm
  have hm0 : m ≠ 0 := by
   intro h0; subst h0
   obtain ⟨z, _⟩ := indexByte_some hm
   rw [e] at z; simp at z; rw [hc] at z; exact absurd z (by decide)
  rw [if_neg hi, b, hm, List.drop_drop]
  simp at *
  omega
/-- blank space is stepped over -/
theorem gapEndF_blank (s : ByteArray) (k : Nat) (h : k < s.size) (hc : Lx.blankB s[k] = true) : gapEndF s k = gapEndF s (runEndF Lx.blankB s k) ∧ k < runEndF Lx.blankB s k := by
 constructor
 ·unfold gapEndF runEndF
  have := gap_run (s.data.toList.drop k)
  rw [this, List.drop_drop]; omega
 ·rw [runEndF_yes _ s k h hc]; have := runEndF_ge Lx.blankB s (k + 1); omega
theorem gapEndF_other (s : ByteArray) (k : Nat) (h : k < s.size) (h1 : Lx.blankB s[k] = false) (h2 : s[k] ≠ 35) : gapEndF s k = k := by
 unfold gapEndF; rw [drop_cons s k h, gap_other _ _ h1 h2]; rfl
theorem gapEndF_end (s : ByteArray) (k : Nat) (h : s.size ≤ k) : gapEndF s k = k := by
 unfold gapEndF; rw [List.drop_of_length_le (by simpa using h)]; rfl
theorem take_drop_all (s : ByteArray) (k : Nat) : List.take (s.size - k) (List.drop k s.data.toList) = s.data.toList.drop k :=
 List.take_of_length_le (by simp)
theorem indexByte_lt (l : List UInt8) (c : UInt8) : indexByte l c ≤ l.length := by
 induction l with
 | nil => simp [indexByte]
 | cons b r ih =>
  unfold indexByte; split
  ·simp; omega
  ·split <;> simp <;> omega
theorem commentEnd_any (s : ByteArray) (k : Nat) (w : World) (hs : s.size ≤ maxLen) (hk : k ≤ s.size) :
  Calls Tryz.prog 185 #[.string s, .int .i64 k] w fun e w' => e = .returned (.int .i64 (comEndF s k)) ∧ w' = w := by
 unfold maxLen at hs
 have e1 := take_drop_all s k
 have hge := indexByte_ge (List.take (s.size - k) (List.drop k s.data.toList)) 10
 have hle : (k : Int) + indexByte (List.take (s.size - k) (List.drop k s.data.toList)) 10 ≤ s.size := by
  have := indexByte_lt (List.take (s.size - k) (List.drop k s.data.toList)) 10
  rw [List.length_take, List.length_drop] at this; simp at this; omega
 have HE := Lib.hid e1
 clear e1
 go_enter Tryz.func185, Tryz.ntmps185
 go_wp2_with (go_at_call 228; refine (Tryz.strings_IndexByte _ _ _).mono ?_; rintro e w' ⟨rfl, rfl⟩)
 ·have h0 : 0 ≤ indexByte (List.take (s.size - k) (List.drop k s.data.toList)) 10 := by assumption
  go_ret
  refine ⟨ret_int ?_, rfl⟩
  unfold comEndF
  rw [HE.out] at h0 ⊢
  rw [if_neg (by omega)]; omega
 ·have h0 : indexByte (List.take (s.size - k) (List.drop k s.data.toList)) 10 < 0 := by assumption
  go_ret
  refine ⟨ret_int ?_, rfl⟩
  unfold comEndF
  rw [HE.out] at h0 hge
  rw [if_pos (by omega)]; omega
theorem blank_cls (c : UInt8) : Lx.blankB c = true ↔ Lx.clsN c.toNat = 1 := by simp [Lx.blankB]
theorem cls_hash (c : UInt8) (h : Lx.clsN c.toNat = 2) : c = 35 := by
 unfold Lx.clsN at h
 repeat' split at h
 all_goals first | omega | skip
 exact UInt8.toNat_inj.1 (by assumption)
theorem cls_not_hash (c : UInt8) (h : Lx.clsN c.toNat ≠ 2) : c ≠ 35 := by
 rintro rfl; exact h (by decide)
theorem TabAt.drewN {w : World} {b : Nat} (h : TabAt w b) (n : Nat) : TabAt (w.drewN n) b := fun i hi => by rw [World.cell?_drewN]; exact h i hi
theorem gapEnd_any (s : ByteArray) (b k0 : Nat) (w : World) (hs : s.size ≤ maxLen) (hk0 : k0 ≤ s.size) (ht : TabAt w b) :
  Calls Tryz.prog 131 #[.pointer (some ⟨b, 0, none⟩), .string s, .int .i64 k0] w fun e w' =>
   e = .returned (.int .i64 (gapEndF s k0)) ∧ ∃ n, w' = w.drewN n := by
 have HM := Lib.hid hs
 unfold maxLen at hs
 have HT := Lib.hid ht
 clear ht
 go_enter Tryz.func131, Tryz.ntmps131
 go_wp2
 go_loopw [2] (fun v wr => ∃ k : Nat, k ≤ s.size ∧ v = .int .i64 k ∧ gapEndF s k0 = gapEndF s k ∧ ∃ n, wr = w.drewN n) (fun v _ => s.size - (RowKit.intOf v).toNat)
 case atStart => exact ⟨k0, hk0, rfl, rfl, 0, rfl⟩
 case round =>
  obtain ⟨k, hk, rfl, hr, n, rfl⟩ := hrel
  have HR := Lib.hid hr
  clear hr
  by_cases hlt : k < s.size
  ·have hc := HT.out s[k].toNat (UInt8.toNat_lt _)
   have hb := u8lt s[k]
   go_wp2
   go_quiet (fail)
   clear hc hb
   go_wp2_with fail
   ·have h1 : ((Lx.clsN s[k].toNat : Int) == 1) = true := by assumption
    have hb1 : Lx.blankB s[k] = true := (blank_cls _).2 (by simp at h1; omega)
    obtain ⟨g1, g2⟩ := gapEndF_blank s k hlt hb1
    have g3 := runEndF_le Lx.blankB s k hk
    have G1 := Lib.hid g1
    clear g1
    refine (runEnd_any Lx.blankB 1 bits_blank s b k _ HM.out hk (HT.out.drewN _)).mono ?_
    rintro e w' ⟨rfl, m, rfl⟩
    go_wp2
    go_roundw
    case rel => exact ⟨runEndF Lx.blankB s k, g3, rfl, HR.out.trans G1.out, _, rfl⟩
    case measure => simp [RowKit.intOf]; omega
   ·have h2 : ((Lx.clsN s[k].toNat : Int) == 2) = true := by assumption
    have hh : s[k] = 35 := cls_hash _ (by simp at h2; omega)
    obtain ⟨g1, g2, g3⟩ := gapEndF_hash s k hlt hh
    have G1 := Lib.hid g1
    clear g1 hh
    refine (commentEnd_any s k _ HM.out hk).mono ?_
    rintro e w' ⟨rfl, rfl⟩
    go_wp2
    go_roundw
    case rel => exact ⟨comEndF s k, g3, rfl, HR.out.trans G1.out, _, rfl⟩
    case measure => simp [RowKit.intOf]; omega
   ·have h1 : ((Lx.clsN s[k].toNat : Int) == 1) = false := by assumption
    have h2 : ((Lx.clsN s[k].toNat : Int) == 2) = false := by assumption
    have hb1 : Lx.blankB s[k] = false := by simp [Lx.blankB]; simp at h1; omega
    have hh : s[k] ≠ 35 := cls_not_hash _ (by simp at h2; omega)
    go_ret
    exact ⟨ret_int (by rw [HR.out, gapEndF_other s k hlt hb1 hh]), _, rfl⟩
  ·go_wp2
   go_ret
   exact ⟨ret_int (by rw [HR.out, gapEndF_end s k (by omega)]), _, rfl⟩
end Go.Proofs.YtpdhiminpdmpiaaGreatDoor
