/- part of the proof -/
import Derived.Test.YtghohohagbbajaaGreatDoorYB
import Derived.Test.YtghohohagbbajaaGreatDoorYA
set_option linter.unusedVariables false
set_option linter.unusedSimpArgs false
set_option linter.unusedSectionVars false
namespace Go.Proofs.YtghohohagbbajaaGreatDoor
open Go.RowKit Go.Lib
theorem clsN_letter (n:Nat):Lx.clsN n=4 ↔ (97≤n∧n≤122)∨(65≤n∧n≤90):=by
 unfold Lx.clsN
 split
 ·constructor <;> intro _ <;> omega
 ·split
  ·constructor <;> intro _ <;> omega
  ·split
   ·constructor <;> intro _ <;> omega
   ·split
    ·constructor <;> intro _ <;> omega
    ·split
     ·constructor <;> intro _ <;> omega
     ·constructor <;> intro _ <;> omega
theorem clsN_digit' (n:Nat):Lx.clsN n=8 ↔ 48≤n∧n≤57:=by
 unfold Lx.clsN
 split
 ·constructor <;> intro _ <;> omega
 ·split
  ·constructor <;> intro _ <;> omega
  ·split
   ·constructor <;> intro _ <;> omega
   ·split
    ·constructor <;> intro _ <;> omega
    ·split
     ·constructor <;> intro _ <;> omega
     ·constructor <;> intro _ <;> omega
theorem clsN_blank (n:Nat):Lx.clsN n=1 ↔ n=32∨n=9∨n=13∨n=10:=by
 unfold Lx.clsN
 split
 ·constructor <;> intro _ <;> omega
 ·split
  ·constructor <;> intro _ <;> omega
  ·split
   ·constructor <;> intro _ <;> omega
   ·split
    ·constructor <;> intro _ <;> omega
    ·split
     ·constructor <;> intro _ <;> omega
     ·constructor <;> intro _ <;> omega
theorem ret_bool {a b:Bool} (h:a=b):Ending.returned (.bool a)=.returned (.bool b):=by rw[h]
theorem letter_any (c:UInt8) (w:World):Calls Tryz.prog 58 #[.int .u8 c.toNat] w fun e w'=>e=.returned (.bool (Lx.letterB c))∧w'=w:=by
 have hl:Lx.letterB c=decide ((97≤c.toNat∧c.toNat≤122)∨(65≤c.toNat∧c.toNat≤90)):=by
  rw[Bool.eq_iff_iff];simp only[Lx.letterB,beq_iff_eq,decide_eq_true_eq];exact clsN_letter _
 have HL:=hid hl
 clear hl
 by_cases h1:97≤c.toNat
 ·have d1:decide ((97:Int)≤(c.toNat:Int))=true:=by simp;omega
  by_cases h2:c.toNat≤122
  ·have d2:decide ((c.toNat:Int)≤122)=true:=by simp;omega
   go_enter Tryz.func58,Tryz.ntmps58
   go_wp2
   go_ret
   exact⟨ret_bool (by rw[HL.out];simp;omega),rfl⟩
  ·have d2:decide ((c.toNat:Int)≤122)=false:=by simp;omega
   have d3:decide ((65:Int)≤(c.toNat:Int))=true:=by simp;omega
   have d4:decide ((c.toNat:Int)≤90)=false:=by simp;omega
   go_enter Tryz.func58,Tryz.ntmps58
   go_wp2
   go_ret
   exact⟨ret_bool (by rw[HL.out];simp;omega),rfl⟩
 ·have d1:decide ((97:Int)≤(c.toNat:Int))=false:=by simp;omega
  by_cases h3:65≤c.toNat
  ·have d3:decide ((65:Int)≤(c.toNat:Int))=true:=by simp;omega
   by_cases h4:c.toNat≤90
   ·have d4:decide ((c.toNat:Int)≤90)=true:=by simp;omega
    go_enter Tryz.func58,Tryz.ntmps58
    go_wp2
    go_ret
    exact⟨ret_bool (by rw[HL.out];simp;omega),rfl⟩
   ·have d4:decide ((c.toNat:Int)≤90)=false:=by simp;omega
    go_enter Tryz.func58,Tryz.ntmps58
    go_wp2
    go_ret
    exact⟨ret_bool (by rw[HL.out];simp;omega),rfl⟩
  ·have d3:decide ((65:Int)≤(c.toNat:Int))=false:=by simp;omega
   go_enter Tryz.func58,Tryz.ntmps58
   go_wp2
   go_ret
   exact⟨ret_bool (by rw[HL.out];simp;omega),rfl⟩
theorem digit_any (c:UInt8) (w:World):Calls Tryz.prog 59 #[.int .u8 c.toNat] w fun e w'=>e=.returned (.bool (Lx.digitB c))∧w'=w:=by
 have hl:Lx.digitB c=decide (48≤c.toNat∧c.toNat≤57):=by
  rw[Bool.eq_iff_iff];simp only[Lx.digitB,beq_iff_eq,decide_eq_true_eq];exact clsN_digit' _
 have HL:=hid hl
 clear hl
 by_cases h1:48≤c.toNat
 ·have d1:decide ((48:Int)≤(c.toNat:Int))=true:=by simp;omega
  by_cases h2:c.toNat≤57
  ·have d2:decide ((c.toNat:Int)≤57)=true:=by simp;omega
   go_enter Tryz.func59,Tryz.ntmps59
   go_wp2
   go_ret
   exact⟨ret_bool (by rw[HL.out];simp;omega),rfl⟩
  ·have d2:decide ((c.toNat:Int)≤57)=false:=by simp;omega
   go_enter Tryz.func59,Tryz.ntmps59
   go_wp2
   go_ret
   exact⟨ret_bool (by rw[HL.out];simp;omega),rfl⟩
 ·have d1:decide ((48:Int)≤(c.toNat:Int))=false:=by simp;omega
  go_enter Tryz.func59,Tryz.ntmps59
  go_wp2
  go_ret
  exact⟨ret_bool (by rw[HL.out];simp;omega),rfl⟩
theorem blank_any (c:UInt8) (w:World):Calls Tryz.prog 57 #[.int .u8 c.toNat] w fun e w'=>e=.returned (.bool (Lx.blankB c))∧w'=w:=by
 have hl:Lx.blankB c=decide (c.toNat=32∨c.toNat=9∨c.toNat=13∨c.toNat=10):=by
  rw[Bool.eq_iff_iff];simp only[Lx.blankB,beq_iff_eq,decide_eq_true_eq];exact clsN_blank _
 have HL:=hid hl
 clear hl
 by_cases h1:c.toNat=32
 ·have d1:((c.toNat:Int) == 32)=true:=by simp;omega
  have H1:=hid h1
  clear h1
  go_enter Tryz.func57,Tryz.ntmps57
  go_wp2
  go_ret
  exact⟨ret_bool (by rw[HL.out];simp[H1.out]),rfl⟩
 ·have d1:((c.toNat:Int) == 32)=false:=by simp;omega
  by_cases h2:c.toNat=9
  ·have d2:((c.toNat:Int) == 9)=true:=by simp;omega
   have H1:=hid h2
   clear h2
   go_enter Tryz.func57,Tryz.ntmps57
   go_wp2
   go_ret
   exact⟨ret_bool (by rw[HL.out];simp[H1.out]),rfl⟩
  ·have d2:((c.toNat:Int) == 9)=false:=by simp;omega
   by_cases h3:c.toNat=13
   ·have d3:((c.toNat:Int) == 13)=true:=by simp;omega
    have H1:=hid h3
    clear h3
    go_enter Tryz.func57,Tryz.ntmps57
    go_wp2
    go_ret
    exact⟨ret_bool (by rw[HL.out];simp[H1.out]),rfl⟩
   ·have d3:((c.toNat:Int) == 13)=false:=by simp;omega
    by_cases h4:c.toNat=10
    ·have d4:((c.toNat:Int) == 10)=true:=by simp;omega
     have H1:=hid h4
     clear h4
     go_enter Tryz.func57,Tryz.ntmps57
     go_wp2
     go_ret
     exact⟨ret_bool (by rw[HL.out];simp[H1.out]),rfl⟩
    ·have d4:((c.toNat:Int) == 10)=false:=by simp;omega
     go_enter Tryz.func57,Tryz.ntmps57
     go_wp2
     go_ret
     exact⟨ret_bool (by rw[HL.out];simp;omega),rfl⟩
def comF (s:ByteArray) (k:Nat):Nat:=k+Lx.gapLen true (s.data.toList.drop k)
theorem gap_step (s:ByteArray) (k:Nat) (h:k<s.size) (hb:Lx.blankB s[k]=true):gapEndF s k=gapEndF s (k+1):=by
 unfold gapEndF
 rw[drop_cons s k h]
 simp only[Lx.gapLen]
 rw[if_pos hb];omega
theorem gap_com (s:ByteArray) (k:Nat) (h:k<s.size) (hc:s[k]=35):gapEndF s k=comF s k:=by
 unfold gapEndF comF
 rw[drop_cons s k h,gap_hash _ _ hc]
theorem com_step (s:ByteArray) (k:Nat) (h:k<s.size) (hc:s[k]≠10):comF s k=comF s (k+1):=by
 unfold comF
 rw[drop_cons s k h]
 simp only[Lx.gapLen]
 rw[if_neg (by simpa using hc)];omega
theorem com_end (s:ByteArray) (k:Nat) (h:k<s.size) (hc:s[k]=10):comF s k=gapEndF s k:=by
 unfold comF gapEndF
 rw[drop_cons s k h]
 have hb:Lx.blankB s[k]=true:=by rw[hc];decide
 simp only[Lx.gapLen]
 rw[if_pos hb,if_pos (by simpa using hc)]
theorem com_size (s:ByteArray) (k:Nat) (h:s.size≤k):comF s k=gapEndF s k:=by
 unfold comF gapEndF
 rw[List.drop_of_length_le (by simpa using h)];rfl
theorem blank_not_hash (c:UInt8) (h:Lx.blankB c=true):((c.toNat:Int) != 35)=true∧c≠35:=by
 have h1:=(clsN_blank c.toNat).1 (by simpa [Lx.blankB] using h)
 refine⟨by simp;omega,?_⟩
 rintro rfl
 exact absurd h (by decide)
theorem byte_eq (c:UInt8) (n:Nat) (hn:n<256) (h:c.toNat=n):c=UInt8.ofNat n:=by
 apply UInt8.toNat_inj.1
 rw[h];simp;omega
set_option maxRecDepth 100000 in
theorem gap_any (s:ByteArray) (k0:Nat) (w:World) (hs:s.size≤maxLen) (hk0:k0≤s.size) :
  Calls Tryz.prog 21 #[.string s,.int .i64 k0] w fun e w'=>e=.returned (.int .i64 (gapEndF s k0))∧w'=w:=by
 unfold maxLen at hs
 go_enter Tryz.func21,Tryz.ntmps21
 go_wp2
 go_loop [1] (fun v=>∃ k:Nat,k≤s.size∧v=.int .i64 k∧gapEndF s k0=gapEndF s k) (fun v=>s.size - (RowKit.intOf v).toNat)
 case atStart=>exact⟨k0,hk0,rfl,rfl⟩
 case round =>
  obtain⟨k,hk,rfl,hr⟩:=hrel
  have HR:=hid hr
  clear hr
  by_cases hlt:k<s.size
  ·have hd:decide (k<s.size)=true:=by simpa using hlt
   cases hb:Lx.blankB s[k] with
   | true =>
    obtain⟨h35,_⟩:=blank_not_hash _ hb
    have HS:=hid (gap_step s k hlt hb)
    have HB:=hid hb
    clear hb
    go_wp2_with fail
    refine(blank_any s[k] _).mono ?_
    rintro e w' ⟨rfl,rfl⟩
    rw[HB.out]
    go_wp2_with fail
    go_round
    case rel=>exact⟨k+1,by omega,by go_num,by rw[HR.out,HS.out]⟩
    case measure=>simp[RowKit.intOf];omega
   | false =>
    have HB:=hid hb
    by_cases hh:s[k].toNat=35
    ·have e35:s[k]=35:=byte_eq _ 35 (by omega) hh
     have d1:((s[k].toNat:Int) == 35)=true:=by simp;omega
     have d2:((s[k].toNat:Int) != 35)=false:=by simp;omega
     have HC:=hid (gap_com s k hlt e35)
     have HH:=hid hh
     clear hb hh e35
     go_wp2_with fail
     refine(blank_any s[k] _).mono ?_
     rintro e w' ⟨rfl,rfl⟩
     rw[HB.out]
     go_wp2_with fail
     clear d1 d2
     go_loop [1] (fun v=>∃ j:Nat,k≤j∧j≤s.size∧v=.int .i64 j∧comF s k=comF s j) (fun v=>s.size - (RowKit.intOf v).toNat)
     case atStart=>exact⟨k,Nat.le_refl _,hk,rfl,rfl⟩
     case round =>
      obtain⟨j,hj1,hj2,rfl,hc⟩:=hrel
      have HJ:=hid hc
      clear hc
      by_cases hjl:j<s.size
      ·have hdj:decide (j<s.size)=true:=by simpa using hjl
       by_cases h10:s[j].toNat=10
       ·have d3:((s[j].toNat:Int) != 10)=false:=by simp;omega
        have e10:s[j]=10:=byte_eq _ 10 (by omega) h10
        have hne:k<j:=by
         rcases Nat.lt_or_ge k j with h|h
         ·exact h
         ·exfalso
          have:j=k:=by omega
          subst this
          have:=HH.out
          omega
        have HE:=hid (com_end s j hjl e10)
        clear h10 e10
        go_wp2_with fail
        go_round
        case rel=>exact⟨j,hj2,rfl,by rw[HR.out,HC.out,HJ.out,HE.out]⟩
        case measure=>simp[RowKit.intOf];omega
       ·have d3:((s[j].toNat:Int) != 10)=true:=by simp;omega
        have HE:=hid (com_step s j hjl (by rintro h;rw[h] at h10;exact h10 (by decide)))
        clear h10
        go_wp2_with fail
        go_round
        case rel=>exact⟨j+1,by omega,by omega,by go_num,by rw[HJ.out,HE.out]⟩
        case measure=>simp[RowKit.intOf];omega
      ·have hdj:decide (j<s.size)=false:=by simpa using hjl
       have HE:=hid (com_size s j (by omega))
       go_wp2_with fail
       go_round
       case rel=>exact⟨j,hj2,rfl,by rw[HR.out,HC.out,HJ.out,HE.out]⟩
       case measure=>simp[RowKit.intOf];omega
    ·have d1:((s[k].toNat:Int) == 35)=false:=by simp;omega
     have HO:=hid (gapEndF_other s k hlt hb (by rintro h;rw[h] at hh;exact hh (by decide)))
     clear hb hh
     go_wp2_with fail
     refine(blank_any s[k] _).mono ?_
     rintro e w' ⟨rfl,rfl⟩
     rw[HB.out]
     go_wp2_with fail
     go_ret
     exact⟨ret_int (by rw[HR.out,HO.out]),rfl⟩
  ·have hd:decide (k<s.size)=false:=by simpa using hlt
   go_wp2_with fail
   go_ret
   exact⟨ret_int (by rw[HR.out,gapEndF_end s k (by omega)]),rfl⟩
end Go.Proofs.YtghohohagbbajaaGreatDoor
