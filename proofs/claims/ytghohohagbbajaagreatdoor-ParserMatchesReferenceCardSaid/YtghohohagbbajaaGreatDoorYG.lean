/- part of the proof -/
import Derived.Test.YtghohohagbbajaaGreatDoorYF
import Derived.Test.YtghohohagbbajaaGreatDoorYA
import Derived.Test.YtghohohagbbajaaGreatDoorYB
set_option linter.unusedVariables false
set_option linter.unusedSimpArgs false
set_option linter.unusedSectionVars false
namespace Go.Proofs.YtghohohagbbajaaGreatDoor
open Go.RowKit Go.Lib
theorem Lx.word_or (c:UInt8):Lx.wordB c=(Lx.letterB c || Lx.digitB c || (c.toNat == 95)):=by
 have h:∀ n,Lx.clsN n=16 ↔ n=95:=by
  intro n
  unfold Lx.clsN
  constructor
  ·intro h
   repeat' split at h
   all_goals first|omega|assumption
  ·rintro rfl;rfl
 have h1:(Lx.clsN c.toNat == 16)=(c.toNat == 95):=by
  rw[Bool.eq_iff_iff];simp only[beq_iff_eq];exact h _
 unfold Lx.wordB Lx.letterB Lx.digitB
 rw[h1]
set_option maxRecDepth 100000 in
theorem token_name (s:ByteArray) (k:Nat) (w:World) (hs:s.size≤20000) (hk:k<s.size) (hl:Lx.letterB s[k]=true) :
  Calls Tryz.prog 22 #[.string s,.int .i64 k] w fun e w'=>e=.returned (.agg #[.int .i64 1,.string (s.extract k (runEndF Lx.wordB s k)),.int .i64 0,.int .i64 k])∧Below w.heap.size w w':=by
 have hle:=runEndF_le Lx.wordB s k (by omega)
 have hge:=runEndF_ge Lx.wordB s k
 obtain⟨r,hr⟩:∃ r,r=runEndF Lx.wordB s k:=⟨_,rfl⟩
 rw[← hr] at hle hge ⊢
 have HR:=hid hr
 have H0:=hid hl
 clear hr hl
 go_enter Tryz.func22,Tryz.ntmps22
 go_wp2_with fail
 refine(letter_any s[k] _).mono ?_
 rintro e w' ⟨rfl,rfl⟩
 rw[H0.out]
 go_wp2_with fail
 go_loop [5] (fun v=>∃ j:Nat,k≤j∧j≤s.size∧v=.int .i64 j∧r=runEndF Lx.wordB s j) (fun v=>s.size - (RowKit.intOf v).toNat)
 case atStart=>exact⟨k,Nat.le_refl _,by omega,rfl,HR.out⟩
 case round =>
  obtain⟨j,hj1,hj2,rfl,hj3⟩:=hrel
  by_cases hjl:j<s.size
  ·have hdj:decide (j<s.size)=true:=by simpa using hjl
   have hw:=Lx.word_or s[j]
   by_cases hl:Lx.letterB s[j]=true
   ·rw[hl] at hw
    have HJ:=hid (hj3.trans (runEndF_yes Lx.wordB s j hjl (by rw[hw];rfl)))
    have H1:=hid hl
    clear hl hw hj3
    go_wp2_with fail
    refine(letter_any s[j] _).mono ?_
    rintro e w' ⟨rfl,rfl⟩
    rw[H1.out]
    go_wp2_with fail
    go_round
    case rel=>exact⟨j+1,by omega,by omega,by go_num,HJ.out⟩
    case measure=>simp[RowKit.intOf];omega
   ·have hl':Lx.letterB s[j]=false:=by simpa using hl
    rw[hl'] at hw
    have H1:=hid hl'
    clear hl hl'
    by_cases hd:Lx.digitB s[j]=true
    ·rw[hd] at hw
     have HJ:=hid (hj3.trans (runEndF_yes Lx.wordB s j hjl (by rw[hw];rfl)))
     have H2:=hid hd
     clear hd hw hj3
     go_wp2_with fail
     refine(letter_any s[j] _).mono ?_
     rintro e w' ⟨rfl,rfl⟩
     rw[H1.out]
     go_wp2_with fail
     refine(digit_any s[j] _).mono ?_
     rintro e w' ⟨rfl,rfl⟩
     rw[H2.out]
     go_wp2_with fail
     go_round
     case rel=>exact⟨j+1,by omega,by omega,by go_num,HJ.out⟩
     case measure=>simp[RowKit.intOf];omega
    ·have hd':Lx.digitB s[j]=false:=by simpa using hd
     rw[hd'] at hw
     have H2:=hid hd'
     clear hd hd'
     by_cases h95:s[j].toNat=95
     ·have d95:((s[j].toNat:Int) == 95)=true:=by simp;omega
      have HJ:=hid (hj3.trans (runEndF_yes Lx.wordB s j hjl (by rw[hw,h95];rfl)))
      clear h95 hw hj3
      go_wp2_with fail
      refine(letter_any s[j] _).mono ?_
      rintro e w' ⟨rfl,rfl⟩
      rw[H1.out]
      go_wp2_with fail
      refine(digit_any s[j] _).mono ?_
      rintro e w' ⟨rfl,rfl⟩
      rw[H2.out]
      go_wp2_with fail
      go_round
      case rel=>exact⟨j+1,by omega,by omega,by go_num,HJ.out⟩
      case measure=>simp[RowKit.intOf];omega
     ·have d95:((s[j].toNat:Int) == 95)=false:=by simp;omega
      have hw2:Lx.wordB s[j]=false:=by rw[hw];simpa using h95
      have hjr:r=j:=hj3.trans (runEndF_no Lx.wordB s j hjl hw2)
      subst hjr
      clear h95 hw hj3 hw2
      go_wp2_with fail
      refine(letter_any s[r] _).mono ?_
      rintro e w' ⟨rfl,rfl⟩
      rw[H1.out]
      go_wp2_with fail
      refine(digit_any s[r] _).mono ?_
      rintro e w' ⟨rfl,rfl⟩
      rw[H2.out]
      go_wp2_with fail
      refine bodyPost_ret (v:=.agg #[.int .i64 1,.string (s.extract k r),.int .i64 0,.int .i64 k]) (by simp[results,Tryz.results22,go_sem]) rfl ⟨rfl,?_⟩
      exact(Below.refl _ _).alloc (Nat.le_refl _) _
  ·have hdj:decide (j<s.size)=false:=by simpa using hjl
   have hjr:r=j:=hj3.trans (runEndF_end Lx.wordB s j (by omega))
   subst hjr
   clear hj3
   go_wp2_with fail
   refine bodyPost_ret (v:=.agg #[.int .i64 1,.string (s.extract k r),.int .i64 0,.int .i64 k]) (by simp[results,Tryz.results22,go_sem]) rfl ⟨rfl,?_⟩
   exact(Below.refl _ _).alloc (Nat.le_refl _) _
def Lx.capS (a:Nat) (c:UInt8):Nat:=min (10 * a+(c.toNat - 48)) 10000000000
def Lx.capV (a:Nat) (l:List UInt8):Nat:=l.foldl Lx.capS a
theorem Lx.capV_nil (a:Nat):Lx.capV a []=a:=by simp only[Lx.capV,List.foldl_nil]
theorem Lx.capV_cons (a:Nat) (c:UInt8) (r:List UInt8):Lx.capV a (c :: r)=Lx.capV (min (10 * a+(c.toNat - 48)) 10000000000) r:=by simp only[Lx.capV,List.foldl_cons,Lx.capS]
theorem Lx.capV_min:∀ (l:List UInt8) (a:Nat),Lx.capV (min a 10000000000) l=min (Lx.numVal a l) 10000000000:=by
 intro l
 induction l with
 | nil=>intro a;rw[Lx.numVal_nil,Lx.capV_nil]
 | cons c r ih =>
  intro a
  have e:min (10 * min a 10000000000+(c.toNat - 48)) 10000000000=min (10 * a+(c.toNat - 48)) 10000000000:=by omega
  rw[Lx.numVal_cons,Lx.capV_cons,e,ih]
theorem Lx.capV_zero (l:List UInt8):Lx.capV 0 l=min (Lx.numVal 0 l) 10000000000:=by
 have:=Lx.capV_min l 0
 rwa [Nat.zero_min] at this
theorem capV_step (s:ByteArray) (j r n:Nat) (hj:j<s.size) (hr:j<r):Lx.capV n ((s.data.toList.drop j).take (r - j))=Lx.capV (min (10 * n+(s[j].toNat - 48)) 10000000000) ((s.data.toList.drop (j+1)).take (r - (j+1))):=by
 rw[drop_cons s j hj,show r - j=(r - (j+1))+1 from by omega,List.take_succ_cons,Lx.capV_cons]
set_option maxRecDepth 100000 in
theorem token_num (s:ByteArray) (k:Nat) (w:World) (hs:s.size≤20000) (hk:k<s.size) (hl:Lx.letterB s[k]=false) (hd:Lx.digitB s[k]=true) :
  Calls Tryz.prog 22 #[.string s,.int .i64 k] w fun e w'=>e=.returned (.agg #[.int .i64 2,.string (s.extract k (runEndF Lx.digitB s k)),.int .i64 (Lx.capV 0 ((s.data.toList.drop k).take (runEndF Lx.digitB s k - k))),.int .i64 k])∧Below w.heap.size w w':=by
 have hle:=runEndF_le Lx.digitB s k (by omega)
 have hge:=runEndF_ge Lx.digitB s k
 obtain⟨r,hr⟩:∃ r,r=runEndF Lx.digitB s k:=⟨_,rfl⟩
 rw[← hr] at hle hge ⊢
 obtain⟨N,hN⟩:∃ N,N=Lx.capV 0 ((s.data.toList.drop k).take (r - k)):=⟨_,rfl⟩
 rw[← hN]
 have HR:=hid hr
 have HN:=hid hN
 have H0:=hid hl
 have H1:=hid hd
 clear hr hl hd hN
 go_enter Tryz.func22,Tryz.ntmps22
 go_wp2_with fail
 refine(letter_any s[k] _).mono ?_
 rintro e w' ⟨rfl,rfl⟩
 rw[H0.out]
 go_wp2_with fail
 refine(digit_any s[k] _).mono ?_
 rintro e w' ⟨rfl,rfl⟩
 rw[H1.out]
 go_wp2_with fail
 go_loop [5,6] (fun v u=>∃ j n:Nat,k≤j∧j≤s.size∧v=.int .i64 j∧r=runEndF Lx.digitB s j∧u=.int .i64 n∧n≤10000000000∧N=Lx.capV n ((s.data.toList.drop j).take (r - j))) (fun v _=>s.size - (RowKit.intOf v).toNat)
 case atStart=>exact⟨k,0,Nat.le_refl _,by omega,rfl,HR.out,rfl,by omega,HN.out⟩
 case round =>
  obtain⟨j,n,hj1,hj2,rfl,hj3,rfl,hn,hj4⟩:=hrel
  by_cases hjl:j<s.size
  ·have hdj:decide (j<s.size)=true:=by simpa using hjl
   by_cases hd:Lx.digitB s[j]=true
   ·obtain⟨q1,q2⟩:=(digit_iff _).1 hd
    have e3:=hj3.trans (runEndF_yes Lx.digitB s j hjl hd)
    have hjr:j<r:=by have:=runEndF_ge Lx.digitB s (j+1);omega
    have HJ:=hid e3
    have H2:=hid hd
    have HC:=hid (hj4.trans (capV_step s j r n hjl hjr))
    clear hd hj3 hj4 e3
    go_wp2_with fail
    refine(digit_any s[j] _).mono ?_
    rintro e w' ⟨rfl,rfl⟩
    rw[H2.out]
    go_wp2_with fail
    go_round
    case rel=>exact⟨j+1,min (10 * n+(s[j].toNat - 48)) 10000000000,by omega,by omega,by go_num,HJ.out,by congr 1;omega,by omega,HC.out⟩
    case measure=>simp[RowKit.intOf];omega
   ·have hd':Lx.digitB s[j]=false:=by simpa using hd
    have hjr:r=j:=hj3.trans (runEndF_no Lx.digitB s j hjl hd')
    subst hjr
    have hnN:N=n:=by rw[hj4,Nat.sub_self,List.take_zero,Lx.capV_nil]
    subst hnN
    have H2:=hid hd'
    clear hd hj3 hd' hj4
    go_wp2_with fail
    refine(digit_any s[r] _).mono ?_
    rintro e w' ⟨rfl,rfl⟩
    rw[H2.out]
    go_wp2_with fail
    refine bodyPost_ret (v:=.agg #[.int .i64 2,.string (s.extract k r),.int .i64 N,.int .i64 k]) (by simp[results,Tryz.results22,go_sem]) rfl ⟨rfl,?_⟩
    exact(Below.refl _ _).alloc (Nat.le_refl _) _
  ·have hdj:decide (j<s.size)=false:=by simpa using hjl
   have hjr:r=j:=hj3.trans (runEndF_end Lx.digitB s j (by omega))
   subst hjr
   have hnN:N=n:=by rw[hj4,Nat.sub_self,List.take_zero,Lx.capV_nil]
   subst hnN
   clear hj3 hj4
   go_wp2_with fail
   refine bodyPost_ret (v:=.agg #[.int .i64 2,.string (s.extract k r),.int .i64 N,.int .i64 k]) (by simp[results,Tryz.results22,go_sem]) rfl ⟨rfl,?_⟩
   exact(Below.refl _ _).alloc (Nat.le_refl _) _
end Go.Proofs.YtghohohagbbajaaGreatDoor
