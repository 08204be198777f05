/- part of the proof -/
import Derived.WalkKit
import Derived.BigQuiet
import Derived.Deep.QuietTactic
import Derived.Outline
import Derived.LoopTactic
import Derived.Lib.Hide
import Derived.Test.YtghohohagbbajaaGreatDoorProg
import Derived.Test.YtghohohagbbajaaGreatDoorYA
import Derived.Test.YtghohohagbbajaaGreatDoorShelf
import Derived.WalkSpells
import Derived.Lib.IndexLaws
import Derived.Maps.OwnOps
import Derived.Maps.OwnSet
import Derived.Lib.SmallJoins
import Derived.IntWalk
import Derived.StringKeys
set_option linter.unusedVariables false
set_option linter.unusedSimpArgs false
set_option linter.unusedSectionVars false
namespace Go.Proofs.YtghohohagbbajaaGreatDoor
open Go.RowKit Go.Lib
def TabAt (w:World) (b:Nat):Prop:=∀ i,i<256→w.cell? ⟨b,i,none⟩=some (.int .u8 (Lx.clsN i))
def runEndF (p:UInt8→Bool) (s:ByteArray) (k:Nat):Nat:=k+Lx.runLen p (s.data.toList.drop k)
theorem drop_cons (s:ByteArray) (k:Nat) (h:k<s.size):s.data.toList.drop k=s[k] :: s.data.toList.drop (k+1):=by
 rw[List.drop_eq_getElem_cons (by simpa using h)];rfl
theorem runEndF_yes (p:UInt8→Bool) (s:ByteArray) (k:Nat) (h:k<s.size) (hp:p s[k]=true):runEndF p s k=runEndF p s (k+1):=by
 unfold runEndF;rw[drop_cons s k h];simp[Lx.runLen,hp];omega
theorem runEndF_no (p:UInt8→Bool) (s:ByteArray) (k:Nat) (h:k<s.size) (hp:p s[k]=false):runEndF p s k=k:=by
 unfold runEndF;rw[drop_cons s k h];simp[Lx.runLen,hp]
theorem runEndF_end (p:UInt8→Bool) (s:ByteArray) (k:Nat) (h:s.size≤k):runEndF p s k=k:=by
 unfold runEndF;rw[List.drop_of_length_le (by simpa using h)];simp[Lx.runLen]
theorem ret_int {k:IntKind} {a b:Int} (h:a=b):Ending.returned (.int k a)=.returned (.int k b):=by rw[h]
theorem clsN_cases (n:Nat):Lx.clsN n=0∨Lx.clsN n=1∨Lx.clsN n=2∨Lx.clsN n=4∨Lx.clsN n=8∨Lx.clsN n=16:=by
 unfold Lx.clsN;repeat' split
 all_goals simp
theorem bits_blank (c:UInt8):Lx.blankB c=(bits BinOp.and IntKind.u8 (↑(Lx.clsN c.toNat)) 1 != 0):=by
 unfold Lx.blankB;rcases clsN_cases c.toNat with h|h|h|h|h|h <;> rw[h] <;> kernel_rfl
theorem bits_digit (c:UInt8):Lx.digitB c=(bits BinOp.and IntKind.u8 (↑(Lx.clsN c.toNat)) 8 != 0):=by
 unfold Lx.digitB;rcases clsN_cases c.toNat with h|h|h|h|h|h <;> rw[h] <;> kernel_rfl
theorem bits_word (c:UInt8):Lx.wordB c=(bits BinOp.and IntKind.u8 (↑(Lx.clsN c.toNat)) 28 != 0):=by
 unfold Lx.wordB;rcases clsN_cases c.toNat with h|h|h|h|h|h <;> rw[h] <;> kernel_rfl
theorem u8lt (c:UInt8):(c.toNat:Int)<256:=by have:=UInt8.toNat_lt c;omega
theorem runEnd_any (p:UInt8→Bool) (m:Int) (hp:∀ c:UInt8,p c=(bits BinOp.and IntKind.u8 (↑(Lx.clsN c.toNat)) m != 0)) (s:ByteArray) (b k0:Nat) (w:World) (hs:s.size≤maxLen) (hk0:k0≤s.size) (ht:TabAt w b) :
  Calls Tryz.prog 72 #[.pointer (some ⟨b,0,none⟩),.string s,.int .i64 k0,.int .u8 m] w fun e w' =>
   e=.returned (.int .i64 (runEndF p s k0))∧∃ n,w'=w.drewN n:=by
 unfold maxLen at hs
 have HT:=hid ht
 clear ht
 have HP:=hid hp
 clear hp
 go_enter Tryz.func72,Tryz.ntmps72
 go_wp2
 go_loopw [2] (fun v wr=>∃ k:Nat,k≤s.size∧v=.int .i64 k∧runEndF p s k0=runEndF p s k∧∃ n,wr=w.drewN n) (fun v _=>s.size - (RowKit.intOf v).toNat)
 case atStart=>exact⟨k0,hk0,rfl,rfl,0,rfl⟩
 case round =>
  obtain⟨k,hk,rfl,hr,n,rfl⟩:=hrel
  have HR:=hid hr
  clear hr
  by_cases hlt:k<s.size
  ·have hd:decide (k<s.size)=true:=by simpa using hlt
   have hc:=HT.out s[k].toNat (UInt8.toNat_lt _)
   have hb:=u8lt s[k]
   go_wp2
   go_quiet (fail)
   clear hc hb
   go_wp2
   ·have hx:p s[k]=true:=by rw[HP.out];assumption
    go_roundw
    case rel=>exact⟨k+1,by omega,by go_num,by rw[HR.out,runEndF_yes p s k hlt hx],_,rfl⟩
    case measure=>simp[RowKit.intOf];omega
   ·have hx:p s[k]=false:=by rw[HP.out];assumption
    go_ret
    exact⟨ret_int (by rw[HR.out,runEndF_no p s k hlt hx]),_,World.drewN_drewN ..⟩
  ·have hd:decide (k<s.size)=false:=by simpa using hlt
   go_wp2
   go_quiet (fail)
   go_wp2
   go_ret
   exact⟨ret_int (by rw[HR.out,runEndF_end p s k (by omega)]),_,World.drewN_drewN ..⟩
theorem gap_true_none:∀ (l:List UInt8),indexByte l 10=-1→Lx.gapLen true l=l.length
 | [],_=>rfl
 | c :: r,h=>by
  unfold indexByte at h
  split at h
  ·omega
  ·split at h
   ·rename_i h1 h2
    have:=gap_true_none r (by simpa using h2)
    unfold Lx.gapLen
    rw[if_neg h1,this];rfl
   ·have:=indexByte_ge r 10
    omega
theorem gap_true_some:∀ (l:List UInt8) (n:Nat),indexByte l 10=n→n<l.length∧Lx.gapLen true l=n+Lx.gapLen false (l.drop n)
 | [],n,h=>by simp[indexByte] at h
 | c :: r,n,h=>by
  unfold indexByte at h
  split at h
  ·rename_i h1
   have hc:c=10:=by simpa using h1
   subst hc
   have hn:n=0:=by omega
   subst hn
   have hb:Lx.blankB 10=true:=by decide
   simp[Lx.gapLen,hb]
  ·split at h
   ·omega
   ·rename_i h1 h2
    have hr:=indexByte_ge r 10
    have h2':indexByte r 10≠-1:=by simpa using h2
    obtain⟨m,hm⟩:∃ m:Nat,indexByte r 10=m:=⟨(indexByte r 10).toNat,by omega⟩
    obtain⟨a,b⟩:=gap_true_some r m hm
    have:n=m+1:=by omega
    subst this
    refine⟨by simp;omega,?_⟩
    simp only[Lx.gapLen,List.drop_succ_cons]
    rw[if_neg h1,b];omega
theorem gap_hash (c:UInt8) (r:List UInt8) (h:c=35):Lx.gapLen false (c :: r)=Lx.gapLen true (c :: r):=by
 subst h
 have h1:Lx.blankB 35=false:=by decide
 simp[Lx.gapLen,h1]
theorem gap_run:∀ (l:List UInt8),Lx.gapLen false l=Lx.runLen Lx.blankB l+Lx.gapLen false (l.drop (Lx.runLen Lx.blankB l))
 | []=>rfl
 | c :: r=>by
  by_cases h:Lx.blankB c=true
  ·have:=gap_run r
   simp only[Lx.gapLen,Lx.runLen,h,if_true,List.drop_succ_cons]
   omega
  ·simp[Lx.runLen,h]
theorem gap_other (c:UInt8) (r:List UInt8) (h1:Lx.blankB c=false) (h2:c≠35):Lx.gapLen false (c :: r)=0:=by
 simp[Lx.gapLen,h1,h2]
def gapEndF (s:ByteArray) (k:Nat):Nat:=k+Lx.gapLen false (s.data.toList.drop k)
def comEndF (s:ByteArray) (k:Nat):Nat:=k+(if indexByte (s.data.toList.drop k) 10=-1 then s.size - k else (indexByte (s.data.toList.drop k) 10).toNat)
theorem gapLen_le:∀ (f:Bool) (l:List UInt8),Lx.gapLen f l≤l.length
 | _,[]=>by simp[Lx.gapLen]
 | false,c :: r=>by
  have h1:=gapLen_le false r
  have h2:=gapLen_le true r
  simp only[Lx.gapLen,List.length_cons]
  repeat' split
  all_goals omega
 | true,c :: r=>by
  have h1:=gapLen_le false r
  have h2:=gapLen_le true r
  simp only[Lx.gapLen,List.length_cons]
  repeat' split
  all_goals omega
theorem runLen_le (p:UInt8→Bool):∀ (l:List UInt8),Lx.runLen p l≤l.length
 | []=>by simp[Lx.runLen]
 | c :: r=>by
  have:=runLen_le p r
  simp only[Lx.runLen,List.length_cons]
  split <;> omega
theorem gapEndF_le (s:ByteArray) (k:Nat) (h:k≤s.size):gapEndF s k≤s.size:=by
 have:=gapLen_le false (s.data.toList.drop k)
 simp at this;unfold gapEndF;omega
theorem runEndF_le (p:UInt8→Bool) (s:ByteArray) (k:Nat) (h:k≤s.size):runEndF p s k≤s.size:=by
 have:=runLen_le p (s.data.toList.drop k)
 simp at this;unfold runEndF;omega
theorem runEndF_ge (p:UInt8→Bool) (s:ByteArray) (k:Nat):k≤runEndF p s k:=by unfold runEndF;omega
theorem drop_ne (s:ByteArray) (k:Nat) (h:k<s.size):(s.data.toList.drop k).length=s.size - k:=by simp
theorem gapEndF_hash (s:ByteArray) (k:Nat) (h:k<s.size) (hc:s[k]=35):gapEndF s k=gapEndF s (comEndF s k)∧k<comEndF s k∧comEndF s k≤s.size:=by
 have e:=drop_cons s k h
 have hg:Lx.gapLen false (s.data.toList.drop k)=Lx.gapLen true (s.data.toList.drop k):=by rw[e];exact gap_hash _ _ hc
 have hl:=drop_ne s k h
 unfold comEndF gapEndF
 rw[hg]
 by_cases hi:indexByte (s.data.toList.drop k) 10=-1
 ·rw[if_pos hi,gap_true_none _ hi,hl,List.drop_of_length_le (by simp;omega)]
  simp[Lx.gapLen];omega
 ·have hr:=indexByte_ge (s.data.toList.drop k) 10
  obtain⟨m,hm⟩:∃ m:Nat,indexByte (s.data.toList.drop k) 10=m:=⟨(indexByte (s.data.toList.drop k) 10).toNat,by omega⟩
  obtain⟨a,b⟩:=gap_true_some _ m hm
  have hm0:m≠0:=by
   intro h0;subst h0
   obtain⟨z,_⟩:=indexByte_some hm
   rw[e] at z;simp at z;rw[hc] at z;exact absurd z (by decide)
  rw[if_neg hi,b,hm,List.drop_drop]
  simp at *
  omega
theorem gapEndF_blank (s:ByteArray) (k:Nat) (h:k<s.size) (hc:Lx.blankB s[k]=true):gapEndF s k=gapEndF s (runEndF Lx.blankB s k)∧k<runEndF Lx.blankB s k:=by
 constructor
 ·unfold gapEndF runEndF
  have:=gap_run (s.data.toList.drop k)
  rw[this,List.drop_drop];omega
 ·rw[runEndF_yes _ s k h hc];have:=runEndF_ge Lx.blankB s (k+1);omega
theorem gapEndF_other (s:ByteArray) (k:Nat) (h:k<s.size) (h1:Lx.blankB s[k]=false) (h2:s[k]≠35):gapEndF s k=k:=by
 unfold gapEndF;rw[drop_cons s k h,gap_other _ _ h1 h2];rfl
theorem gapEndF_end (s:ByteArray) (k:Nat) (h:s.size≤k):gapEndF s k=k:=by
 unfold gapEndF;rw[List.drop_of_length_le (by simpa using h)];rfl
theorem take_drop_all (s:ByteArray) (k:Nat):List.take (s.size - k) (List.drop k s.data.toList)=s.data.toList.drop k :=
 List.take_of_length_le (by simp)
theorem indexByte_lt (l:List UInt8) (c:UInt8):indexByte l c≤l.length:=by
 induction l with
 | nil=>simp[indexByte]
 | cons b r ih =>
  unfold indexByte;split
  ·simp;omega
  ·split <;> simp <;> omega
theorem commentEnd_any (s:ByteArray) (k:Nat) (w:World) (hs:s.size≤maxLen) (hk:k≤s.size) :
  Calls Tryz.prog 73 #[.string s,.int .i64 k] w fun e w'=>e=.returned (.int .i64 (comEndF s k))∧w'=w:=by
 unfold maxLen at hs
 have e1:=take_drop_all s k
 have hge:=indexByte_ge (List.take (s.size - k) (List.drop k s.data.toList)) 10
 have hle:(k:Int)+indexByte (List.take (s.size - k) (List.drop k s.data.toList)) 10≤s.size:=by
  have:=indexByte_lt (List.take (s.size - k) (List.drop k s.data.toList)) 10
  rw[List.length_take,List.length_drop] at this;simp at this;omega
 have HE:=hid e1
 clear e1
 go_enter Tryz.func73,Tryz.ntmps73
 go_wp2_with (go_at_call 100;refine(Tryz.strings_IndexByte _ _ _).mono ?_;rintro e w' ⟨rfl,rfl⟩)
 ·have h0:0≤indexByte (List.take (s.size - k) (List.drop k s.data.toList)) 10:=by assumption
  go_ret
  refine⟨ret_int ?_,rfl⟩
  unfold comEndF
  rw[HE.out] at h0 ⊢
  rw[if_neg (by omega)];omega
 ·have h0:indexByte (List.take (s.size - k) (List.drop k s.data.toList)) 10<0:=by assumption
  go_ret
  refine⟨ret_int ?_,rfl⟩
  unfold comEndF
  rw[HE.out] at h0 hge
  rw[if_pos (by omega)];omega
theorem blank_cls (c:UInt8):Lx.blankB c=true ↔ Lx.clsN c.toNat=1:=by simp[Lx.blankB]
theorem cls_hash (c:UInt8) (h:Lx.clsN c.toNat=2):c=35:=by
 unfold Lx.clsN at h
 repeat' split at h
 all_goals first|omega|skip
 exact UInt8.toNat_inj.1 (by assumption)
theorem cls_not_hash (c:UInt8) (h:Lx.clsN c.toNat≠2):c≠35:=by
 rintro rfl;exact h (by decide)
theorem TabAt.drewN {w:World} {b:Nat} (h:TabAt w b) (n:Nat):TabAt (w.drewN n) b:=fun i hi=>by rw[World.cell?_drewN];exact h i hi
theorem gapEnd_any (s:ByteArray) (b k0:Nat) (w:World) (hs:s.size≤maxLen) (hk0:k0≤s.size) (ht:TabAt w b) :
  Calls Tryz.prog 38 #[.pointer (some ⟨b,0,none⟩),.string s,.int .i64 k0] w fun e w' =>
   e=.returned (.int .i64 (gapEndF s k0))∧∃ n,w'=w.drewN n:=by
 have HM:=hid hs
 unfold maxLen at hs
 have HT:=hid ht
 clear ht
 go_enter Tryz.func38,Tryz.ntmps38
 go_wp2
 go_loopw [2] (fun v wr=>∃ k:Nat,k≤s.size∧v=.int .i64 k∧gapEndF s k0=gapEndF s k∧∃ n,wr=w.drewN n) (fun v _=>s.size - (RowKit.intOf v).toNat)
 case atStart=>exact⟨k0,hk0,rfl,rfl,0,rfl⟩
 case round =>
  obtain⟨k,hk,rfl,hr,n,rfl⟩:=hrel
  have HR:=hid hr
  clear hr
  by_cases hlt:k<s.size
  ·have hc:=HT.out s[k].toNat (UInt8.toNat_lt _)
   have hb:=u8lt s[k]
   go_wp2
   go_quiet (fail)
   clear hc hb
   go_wp2_with fail
   ·have h1:((Lx.clsN s[k].toNat:Int) == 1)=true:=by assumption
    have hb1:Lx.blankB s[k]=true:=(blank_cls _).2 (by simp at h1;omega)
    obtain⟨g1,g2⟩:=gapEndF_blank s k hlt hb1
    have g3:=runEndF_le Lx.blankB s k hk
    have G1:=hid g1
    clear g1
    refine(runEnd_any Lx.blankB 1 bits_blank s b k _ HM.out hk (HT.out.drewN _)).mono ?_
    rintro e w' ⟨rfl,m,rfl⟩
    go_wp2
    go_roundw
    case rel=>exact⟨runEndF Lx.blankB s k,g3,rfl,HR.out.trans G1.out,_,rfl⟩
    case measure=>simp[RowKit.intOf];omega
   ·have h2:((Lx.clsN s[k].toNat:Int) == 2)=true:=by assumption
    have hh:s[k]=35:=cls_hash _ (by simp at h2;omega)
    obtain⟨g1,g2,g3⟩:=gapEndF_hash s k hlt hh
    have G1:=hid g1
    clear g1 hh
    refine(commentEnd_any s k _ HM.out hk).mono ?_
    rintro e w' ⟨rfl,rfl⟩
    go_wp2
    go_roundw
    case rel=>exact⟨comEndF s k,g3,rfl,HR.out.trans G1.out,_,rfl⟩
    case measure=>simp[RowKit.intOf];omega
   ·have h1:((Lx.clsN s[k].toNat:Int) == 1)=false:=by assumption
    have h2:((Lx.clsN s[k].toNat:Int) == 2)=false:=by assumption
    have hb1:Lx.blankB s[k]=false:=by simp[Lx.blankB];simp at h1;omega
    have hh:s[k]≠35:=cls_not_hash _ (by simp at h2;omega)
    go_ret
    exact⟨ret_int (by rw[HR.out,gapEndF_other s k hlt hb1 hh]),_,rfl⟩
  ·go_wp2
   go_ret
   exact⟨ret_int (by rw[HR.out,gapEndF_end s k (by omega)]),_,rfl⟩
theorem bcell {W w1:World} (hb:Below W.heap.size W w1):(∀ b o,b<W.heap.size→w1.cell? ⟨b,o,none⟩=W.cell? ⟨b,o,none⟩)∧(∀ b o,b<W.heap.size→w1.frozen? ⟨b,o,none⟩=W.frozen? ⟨b,o,none⟩) :=
 ⟨fun b o h=>hb.cell (p:=⟨b,o,none⟩) h,fun b o h=>hb.frozen (p:=⟨b,o,none⟩) h⟩
theorem below4 {w w':World} {B b:Nat} (h:Below B w w') (hb:B≤b) (v0 v1 v2 v3:Value) :
  Below B w ((((w'.setCell ⟨b,0,none⟩ v0).setCell ⟨b,1,none⟩ v1).setCell ⟨b,2,none⟩ v2).setCell ⟨b,3,none⟩ v3) :=
 (((h.setCell (p:=⟨b,0,none⟩) hb v0).setCell (p:=⟨b,1,none⟩) hb v1).setCell (p:=⟨b,2,none⟩) hb v2).setCell (p:=⟨b,3,none⟩) hb v3
theorem name_ok (t:ByteArray) (o:Nat) (w:World) (h:t.size≤24) :
  Calls Tryz.prog 74 #[.string t,.int .i64 o] w fun e w'=>e=.returned (.tuple #[.agg #[.int .i64 1,.string t,.int .i64 0,.int .i64 o],.int .i64 0])∧Below w.heap.size w w':=by
 have hd:decide (24<(t.size:Int))=false:=by simp;omega
 go_enter Tryz.func74,Tryz.ntmps74
 go_wp2
 refine bodyPost_ret (v:=.tuple #[.agg #[.int .i64 1,.string t,.int .i64 0,.int .i64 o],.int .i64 0]) (by simp[results,Tryz.results74,go_sem]) rfl ⟨rfl,?_⟩
 exact((Below.refl _ _).alloc (Nat.le_refl _) _)
theorem name_err (t:ByteArray) (o:Nat) (w:World) (h:24<t.size) :
  Calls Tryz.prog 74 #[.string t,.int .i64 o] w fun e w'=>e=.returned (.tuple #[.agg #[.int .i64 0,.string ⟨#[]⟩,.int .i64 0,.int .i64 o],.int .i64 2])∧Below w.heap.size w w':=by
 have hd:decide (24<(t.size:Int))=true:=by simp;omega
 go_enter Tryz.func74,Tryz.ntmps74
 go_wp2
 refine bodyPost_ret (v:=.tuple #[.agg #[.int .i64 0,.string ⟨#[]⟩,.int .i64 0,.int .i64 o],.int .i64 2]) (by simp[results,Tryz.results74,go_sem]) rfl ⟨rfl,?_⟩
 exact((Below.refl _ _).alloc (Nat.le_refl _) _)
theorem clsN_digit (n:Nat):Lx.clsN n=8 ↔ 48≤n∧n≤57:=by
 unfold Lx.clsN
 split
 ·constructor <;> intro _ <;> omega
 ·split
  ·constructor <;> intro _ <;> omega
  ·split
   ·constructor <;> intro _ <;> omega
   ·split
    ·constructor <;> intro _ <;> omega
    ·split
     ·constructor <;> intro _ <;> omega
     ·constructor <;> intro _ <;> omega
theorem digit_iff (c:UInt8):Lx.digitB c=true ↔ 48≤c.toNat∧c.toNat≤57:=by
 rw[← clsN_digit];simp[Lx.digitB]
theorem parse_digits:∀ (l:List UInt8) (acc:Nat),(∀ c∈l,Lx.digitB c=true) →
  parseUint10 acc l=.ok (Lx.numVal acc l)∨(parseUint10 acc l=.range∧18446744073709551616≤Lx.numVal acc l)
 | [],acc,_=>by left;simp only[parseUint10,Lx.numVal_nil]
 | c :: r,acc,h=>by
  have hc:=(digit_iff c).1 (h c (by simp))
  have ih:=parse_digits r (acc * 10+(c.toNat - 48)) (fun x hx=>h x (by simp[hx]))
  have hg:=Lx.numVal_ge r (10 * acc+(c.toNat - 48))
  simp only[parseUint10,Lx.numVal_cons,hc,and_self,if_true]
  rw[Nat.mul_comm acc 10] at *
  split
  ·right;exact⟨rfl,by omega⟩
  ·split
   ·right;exact⟨rfl,by omega⟩
   ·exact ih
theorem atoi_digits (l:List UInt8) (hne:l≠[]) (h:∀ c∈l,Lx.digitB c=true) :
  (atoiAll l=.ok (Lx.numVal 0 l:Int)∧Lx.numVal 0 l<9223372036854775808)∨(atoiAll l=.range∧9223372036854775808≤Lx.numVal 0 l):=by
 cases l with
 | nil=>exact absurd rfl hne
 | cons c r =>
  have hc:=(digit_iff c).1 (h c (by simp))
  have h1:¬ c.toNat=43:=by omega
  have h2:¬ c.toNat=45:=by omega
  have hp:=parse_digits (c :: r) 0 h
  unfold atoiAll
  simp only[h1,h2,or_self,not_false_eq_true,true_and,false_and,if_false,parseMag]
  rw[if_neg (by simp)]
  rcases hp with hp|⟨hp,hb⟩
  ·rw[hp]
   by_cases hv:9223372036854775808≤Lx.numVal 0 (c :: r)
   ·right;simp[hv]
   ·left;simp[hv];omega
  ·right;rw[hp];exact⟨rfl,by omega⟩
def ErrAt (w:World):Prop:=∃ ev,w.cell? ⟨4,0,none⟩=some ev∧(ev=.nilIface∨∃ te pe,ev=.iface te pe)∧4<w.heap.size
theorem ErrAt.below {w w':World} {B:Nat} (h:ErrAt w) (hb:Below B w w') (hB:w.heap.size≤B):ErrAt w':=by
 obtain⟨ev,h1,h2,h3⟩:=h
 exact⟨ev,(hb.cell (p:=⟨4,0,none⟩) (by simp;omega)).trans h1,h2,by have:=hb.size;omega⟩
theorem atoi_small (t:ByteArray) (w:World) (hs:t.size≤140737488355328) (hne:t.data.toList≠[]) (h:∀ c∈t.data.toList,Lx.digitB c=true) (hv:Lx.numVal 0 t.data.toList<9223372036854775808) :
  Calls Tryz.prog 101 #[.string t] w fun e w'=>e=.returned (.tuple #[.int .i64 (Lx.numVal 0 t.data.toList),.nilIface])∧Below w.heap.size w w':=by
 rcases atoi_digits _ hne h with ⟨h1,h2⟩|⟨h1,h2⟩
 ·refine(Tryz.strconv_Atoi_ok t (by omega) _ h1 w).mono ?_
  rintro e w' ⟨rfl,rfl|⟨x,rfl⟩⟩
  ·exact⟨rfl,Below.refl _ _⟩
  ·exact⟨rfl,Joins.below_bytesWorld _ _ _ _ (Nat.le_refl _)⟩
 ·omega
theorem atoi_big (t:ByteArray) (w:World) (hs:t.size≤140737488355328) (hne:t.data.toList≠[]) (h:∀ c∈t.data.toList,Lx.digitB c=true) (hv:9223372036854775808≤Lx.numVal 0 t.data.toList) (hE:ErrAt w) :
  Calls Tryz.prog 101 #[.string t] w fun e w'=>(∃ v N,e=.returned (.tuple #[.int .i64 v,.iface 199 (.pointer (some ⟨N,0,none⟩))]))∧Below w.heap.size w w':=by
 rcases atoi_digits _ hne h with ⟨h1,h2⟩|⟨h1,h2⟩
 ·omega
 ·obtain⟨ev,e1,e2,_⟩:=hE
  refine(Tryz.strconv_Atoi_range t (by omega) h1 ev w e1 e2).mono ?_
  rintro e w' ⟨N,rfl,_,_,hb⟩
  exact⟨⟨_,N,rfl⟩,hb⟩
theorem number_ok (t:ByteArray) (o:Nat) (w:World) (hne:t.data.toList≠[]) (h:∀ c∈t.data.toList,Lx.digitB c=true) (hl:t.size≤10) (hv:Lx.numVal 0 t.data.toList≤1000000000) :
  Calls Tryz.prog 75 #[.string t,.int .i64 o] w fun e w'=>e=.returned (.tuple #[.agg #[.int .i64 2,.string t,.int .i64 (Lx.numVal 0 t.data.toList),.int .i64 o],.int .i64 0])∧Below w.heap.size w w':=by
 have hd:decide (10<(t.size:Int))=false:=by simp;omega
 have hd2:decide (1000000000<(Lx.numVal 0 t.data.toList:Int))=false:=by simp;omega
 have H:=hid h
 clear h
 go_enter Tryz.func75,Tryz.ntmps75
 go_wp2_with (go_at_call 101;refine(atoi_small t _ (by omega) hne H.out (by omega)).mono ?_;rintro e w' ⟨rfl,hb⟩;obtain⟨hc,hf⟩:=bcell hb)
 refine bodyPost_ret (v:=.tuple #[.agg #[.int .i64 2,.string t,.int .i64 (Lx.numVal 0 t.data.toList),.int .i64 o],.int .i64 0]) (by simp[results,Tryz.results75,go_sem,hc]) rfl ⟨rfl,?_⟩
 exact below4 (((Below.refl _ _).alloc (Nat.le_refl _) _).trans (hb.mono (by simp))) (Nat.le_refl _) _ _ _ _
theorem number_err (t:ByteArray) (o:Nat) (w:World) (hs:t.size≤140737488355328) (hne:t.data.toList≠[]) (h:∀ c∈t.data.toList,Lx.digitB c=true) (hx:10<t.size∨1000000000<Lx.numVal 0 t.data.toList) (hE:ErrAt w) :
  Calls Tryz.prog 75 #[.string t,.int .i64 o] w fun e w'=>e=.returned (.tuple #[.agg #[.int .i64 0,.string ⟨#[]⟩,.int .i64 0,.int .i64 o],.int .i64 2])∧Below w.heap.size w w':=by
 have H:=hid h
 clear h
 by_cases hv:Lx.numVal 0 t.data.toList<9223372036854775808
 ·by_cases hl:10<t.size
  ·have hd:decide (10<(t.size:Int))=true:=by simp;omega
   go_enter Tryz.func75,Tryz.ntmps75
   go_wp2_with (go_at_call 101;refine(atoi_small t _ (by omega) hne H.out (by omega)).mono ?_;rintro e w' ⟨rfl,hb⟩;obtain⟨hc,hf⟩:=bcell hb)
   refine bodyPost_ret (v:=.tuple #[.agg #[.int .i64 0,.string ⟨#[]⟩,.int .i64 0,.int .i64 o],.int .i64 2]) (by simp[results,Tryz.results75,go_sem,hc]) rfl ⟨rfl,?_⟩
   exact below4 (((Below.refl _ _).alloc (Nat.le_refl _) _).trans (hb.mono (by simp))) (Nat.le_refl _) _ _ _ _
  ·have hd:decide (10<(t.size:Int))=false:=by simp;omega
   have hd2:decide (1000000000<(Lx.numVal 0 t.data.toList:Int))=true:=by simp;omega
   go_enter Tryz.func75,Tryz.ntmps75
   go_wp2_with (go_at_call 101;refine(atoi_small t _ (by omega) hne H.out (by omega)).mono ?_;rintro e w' ⟨rfl,hb⟩;obtain⟨hc,hf⟩:=bcell hb)
   refine bodyPost_ret (v:=.tuple #[.agg #[.int .i64 0,.string ⟨#[]⟩,.int .i64 0,.int .i64 o],.int .i64 2]) (by simp[results,Tryz.results75,go_sem,hc]) rfl ⟨rfl,?_⟩
   exact below4 (((Below.refl _ _).alloc (Nat.le_refl _) _).trans (hb.mono (by simp))) (Nat.le_refl _) _ _ _ _
 ·go_enter Tryz.func75,Tryz.ntmps75
  go_wp2_with (go_at_call 101;refine(atoi_big t _ (by omega) hne H.out (by omega) (hE.below ((Below.refl _ w).alloc (Nat.le_refl _) _) (Nat.le_refl _))).mono ?_;rintro e w' ⟨⟨v,N,rfl⟩,hb⟩;obtain⟨hc,hf⟩:=bcell hb)
  refine bodyPost_ret (v:=.tuple #[.agg #[.int .i64 0,.string ⟨#[]⟩,.int .i64 0,.int .i64 o],.int .i64 2]) (by simp[results,Tryz.results75,go_sem,hc]) rfl ⟨rfl,?_⟩
  exact below4 (((Below.refl _ _).alloc (Nat.le_refl _) _).trans (hb.mono (by simp))) (Nat.le_refl _) _ _ _ _
theorem plainElem_bool_inv {H:Type} {P:Program} {e:TypeId} (he:P.underlying e=some .bool) {v:Value} {z:DataW H × List MemPlace} (h:plainElem P e v=some z):∃ x,v=.bool x∧z=(.lit (.bool x),[]):=by
 unfold plainElem at h
 rw[he] at h
 cases v <;> simp at h
 exact⟨_,rfl,h.symm⟩
theorem wpList_lookup_own_boolAt {H:Type} {P:Program} (w:World) {ops:Array Oper} {rest:List Oper} {o:Oper} {a:Act} {Q:Exit→Act→World→Prop}
  (hg:o.guard=none) (m x:Operand) (t:TypeId) (hop:o.op=Op.lookup t m x false)
  (k e:TypeId) (K:Maps.Keyed P k) (ht:P.underlying t=some (.map k e)) (he:P.underlying e=some .bool) (hz:(zeroValue e).run P w=.ok (.bool false) w) (b n:Nat) (D:DataW H)
  (hm:a.eval m=.map (some b)) (hown:w.ownsMap P k (plainElem P e) b n D) (key:Value) (kl:Lit) (hx:a.eval x=key) (hkey:keyOf P k key=some kl)
  (c:Bool) (hat:D.atKey kl (.lit (.bool false))=.lit (.bool c)) (hK:wpList P ops Q rest (a.put o.dst (.bool c)) w) :
  wpList P ops Q (o :: rest) a w:=by
 refine wpList_plain hg fun K' hK'=>?_
 obtain⟨v,ps,hrun,hv⟩:=hown.lookup K ht hz (plainElem_bool he false) hkey
 obtain⟨y,rfl,hy⟩:=plainElem_bool_inv he hv
 simp only[Prod.mk.injEq] at hy
 have:y=c:=by have:=hy.1.symm.trans hat;simpa using this
 subst this
 unfold Oper.wp
 simp[execOp,hop,hm,hx,hrun,Result.andThen]
 exact hK' _ _ hK
theorem keyed9:Maps.Keyed Tryz.prog 9:=Maps.string_keyed Tryz.underlying9
theorem zero4 (w:World):(zeroValue 4).run Tryz.prog w=.ok (.bool false) w:=by kernel_rfl
def SymAt (w:World) (b:Nat):Prop :=
 ∃ (m n:Nat) (D:DataW Unit),w.cell? ⟨b,256,none⟩=some (.map (some m))∧m<w.heap.size∧w.ownsMap Tryz.prog 9 (plainElem Tryz.prog 4) m n D ∧
  ∀ l:List UInt8,D.atKey (.string l) (.lit (.bool false))=.lit (.bool (Lx.isSym l))
def symE (s:ByteArray) (k n:Nat):Ending :=
 if n=0 then .returned (.tuple #[.agg #[.int .i64 0,.string ⟨#[]⟩,.int .i64 0,.int .i64 k],.int .i64 3])
 else .returned (.tuple #[.agg #[.int .i64 3,.string (s.extract k (k+n)),.int .i64 0,.int .i64 k],.int .i64 0])
set_option maxRecDepth 100000 in
theorem symbol_any (s:ByteArray) (b k:Nat) (w:World) (hs:s.size≤maxLen) (hk:k<s.size) (hb:b<w.heap.size) (hS:SymAt w b) :
  Calls Tryz.prog 76 #[.pointer (some ⟨b,0,none⟩),.string s,.int .i64 k] w fun e w' =>
   e=symE s k (Lx.symLen (s.data.toList.drop k))∧Below w.heap.size w w':=by
 have hsm:=hs
 unfold maxLen at hs
 obtain⟨m,n,D,hc,hm,hown,hat⟩:=hS
 have HAT:=hid hat
 clear hat
 go_enter Tryz.func76,Tryz.ntmps76
 go_wp2
 go_loop [8,9] (fun v _=>∃ j:Nat,j≤2∧k+j≤s.size∧v=.int .i64 j∧Lx.symLen (s.data.toList.drop k)=Lx.symFrom j (s.data.toList.drop k)) (fun v _=>(RowKit.intOf v).toNat)
 case atStart =>
  refine⟨min 2 (s.size - k),by omega,by omega,?_,by simp[Lx.symLen]⟩
  congr 1;omega
 case round =>
  obtain⟨j,hj,hj2,rfl,hr⟩:=hrel
  have HR:=hid hr
  clear hr
  cases j with
  | zero =>
   go_wp2
   have h0:Lx.symLen (s.data.toList.drop k)=0:=by rw[HR.out];rfl
   refine bodyPost_ret (v:=.tuple #[.agg #[.int .i64 0,.string ⟨#[]⟩,.int .i64 0,.int .i64 k],.int .i64 3]) (by simp[results,Tryz.results76,go_sem]) rfl ⟨?_,?_⟩
   ·unfold symE;rw[if_pos h0]
   ·exact(Below.refl _ _).alloc (Nat.le_refl _) _
  | succ j =>
   have hown1:=hown.alloc (.cells #[Value.int IntKind.i64 0,Value.string { data:=#[] },Value.int IntKind.i64 0,Value.int IntKind.i64 0] 73)
   have hw:(IntKind.i64.wrap ((k:Int)+((j+1:Nat):Int)))=((k+(j+1):Nat):Int):=by rw[IntWalk.i64_in _ (by omega)];omega
   cases hq:Lx.isSym ((s.data.toList.drop k).take (j+1)) with
   | true =>
    have HQ:=hid hq
    clear hq
    have h0:Lx.symLen (s.data.toList.drop k)=j+1:=by rw[HR.out,Lx.symFrom,if_pos HQ.out]
    have H0:=hid h0
    clear h0
    go_wp2_with (at_lookup;(refine wpList_lookup_own_boolAt _ rfl _ _ 74 rfl 9 4 keyed9 Tryz.underlying74 Tryz.underlying4 (zero4 _) m n D rfl hown1 _ _ rfl (WideMaps.keyOf_string_mk Tryz.underlying9 ?c1) true ?c2 ?_))
    case c1=>unfold maxLen;simp;omega
    case c2=>simpa [HQ.out] using HAT.out (List.take (j+1) (List.drop k s.data.toList))
    refine bodyPost_ret (v:=.tuple #[.agg #[.int .i64 3,.string (s.extract k (k+(j+1))),.int .i64 0,.int .i64 k],.int .i64 0]) (by simp[results,Tryz.results76,go_sem]) rfl ⟨?_,?_⟩
    ·unfold symE;rw[H0.out,if_neg (by omega)]
    ·exact(Below.refl _ _).alloc (Nat.le_refl _) _
   | false =>
    have HQ:=hid hq
    clear hq
    have h0:Lx.symLen (s.data.toList.drop k)=Lx.symFrom j (s.data.toList.drop k):=by rw[HR.out,Lx.symFrom,if_neg (by rw[HQ.out];simp)]
    have H0:=hid h0
    clear h0
    go_wp2_with (at_lookup;refine wpList_lookup_own_boolAt _ rfl _ _ 74 rfl 9 4 keyed9 Tryz.underlying74 Tryz.underlying4 (zero4 _) m n D rfl hown1 _ _ rfl (WideMaps.keyOf_string_mk Tryz.underlying9 ?c3) false ?c4 ?_)
    case c3=>unfold maxLen;simp;omega
    case c4=>simpa [HQ.out] using HAT.out (List.take (j+1) (List.drop k s.data.toList))
    go_round
    case rel=>exact⟨j,by omega,by omega,by go_num,H0.out⟩
    case measure=>simp[RowKit.intOf]
def Tabs (w:World) (b:Nat):Prop:=b<w.heap.size∧TabAt w b∧SymAt w b∧ErrAt w
theorem Tabs.keep {w w':World} {b B:Nat} (h:Tabs w b) (hb:Below B w w') (hB:w.heap.size≤B):Tabs w' b:=by
 obtain⟨h1,h2,⟨m,n,D,c,hm,⟨es,cl,ho,hr⟩,hat⟩,h4⟩:=h
 have hs:=hb.size
 refine⟨by omega,fun i hi=>(hb.cell (p:=⟨b,i,none⟩) (by simp;omega)).trans (h2 i hi),⟨m,n,D,(hb.cell (p:=⟨b,256,none⟩) (by simp;omega)).trans c,by omega,⟨es,cl,(hb.block m (by omega)).trans ho,hr⟩,hat⟩,h4.below hb hB⟩
def TabsM (w:World) (b m:Nat):Prop :=
 b<w.heap.size∧m<w.heap.size∧TabAt w b∧(∃ (n:Nat) (D:DataW Unit),w.cell? ⟨b,256,none⟩=some (.map (some m))∧w.ownsMap Tryz.prog 9 (plainElem Tryz.prog 4) m n D ∧
  ∀ l:List UInt8,D.atKey (.string l) (.lit (.bool false))=.lit (.bool (Lx.isSym l)))∧ErrAt w
theorem TabsM.tabs {w:World} {b m:Nat} (h:TabsM w b m):Tabs w b:=by
 obtain⟨h1,h2,h3,⟨n,D,c,o,hat⟩,h5⟩:=h
 exact⟨h1,h3,⟨m,n,D,c,h2,o,hat⟩,h5⟩
theorem TabsM.kept {w w':World} {b m:Nat} (h:TabsM w b m) (hs:w.heap.size≤w'.heap.size) (hk:∀ k o,k=b∨k=m∨k=4→w.heap[k]?=some o→w'.heap[k]?=some o):TabsM w' b m:=by
 obtain⟨h1,h2,h3,⟨n,D,c,⟨es,cl,ho,hr⟩,hat⟩,⟨ev,e1,e2,e3⟩⟩:=h
 have hh:∀ k,k=b∨k=m∨k=4→k<w.heap.size→w'.heap[k]?=w.heap[k]?:=fun k hk' hlt=>by
  have:=hk k _ hk' (Array.getElem?_eq_getElem hlt)
  rw[this,Array.getElem?_eq_getElem hlt]
 have hb:=hh b (by simp) h1
 exact⟨by omega,by omega,fun i hi=>(World.cell?_of_block (w:=w) hb).trans (h3 i hi),⟨n,D,(World.cell?_of_block (w:=w) hb).trans c,⟨es,cl,hk m _ (by simp) ho,hr⟩,hat⟩,
  ⟨ev,(World.cell?_of_block (w:=w) (hh 4 (by simp) e3)).trans e1,e2,by omega⟩⟩
theorem below_drewN (B:Nat) (w:World) (n:Nat):Below B w (w.drewN n):=⟨rfl,rfl,rfl,Nat.le_refl _,fun _ _=>rfl⟩
def tokE (s:ByteArray) (k:Nat) (t:Nat × Nat × Nat):Ending :=
 if t.1=0 then .returned (.tuple #[.agg #[.int .i64 0,.string ⟨#[]⟩,.int .i64 0,.int .i64 k],.int .i64 t.2.2])
 else .returned (.tuple #[.agg #[.int .i64 t.1,.string (s.extract k (k+t.2.1)),.int .i64 t.2.2,.int .i64 k],.int .i64 0])
theorem letter_word (c:UInt8) (h:Lx.letterB c=true):Lx.wordB c=true:=by simp[Lx.letterB] at h;simp[Lx.wordB,h]
theorem token_letter (s:ByteArray) (k:Nat) (h:k<s.size) (hc:Lx.letterB s[k]=true):Lx.tokAt (s.data.toList.drop k)=if 24<runEndF Lx.wordB s k - k then (0,0,2) else (1,runEndF Lx.wordB s k - k,0):=by
 unfold runEndF
 rw[drop_cons s k h]
 simp only[Lx.tokAt,hc,if_true,Nat.add_sub_cancel_left]
theorem token_digit (s:ByteArray) (k:Nat) (h:k<s.size) (hl:Lx.letterB s[k]=false) (hc:Lx.digitB s[k]=true) :
  Lx.tokAt (s.data.toList.drop k)=if 10<runEndF Lx.digitB s k - k∨1000000000<Lx.numVal 0 ((s.data.toList.drop k).take (runEndF Lx.digitB s k - k)) then (0,0,2)
   else (2,runEndF Lx.digitB s k - k,Lx.numVal 0 ((s.data.toList.drop k).take (runEndF Lx.digitB s k - k))):=by
 unfold runEndF
 rw[drop_cons s k h]
 simp only[Lx.tokAt,hc,hl,if_true,Nat.add_sub_cancel_left,Bool.false_eq_true,if_false]
theorem token_other (s:ByteArray) (k:Nat) (h:k<s.size) (hl:Lx.letterB s[k]=false) (hc:Lx.digitB s[k]=false) :
  tokE s k (Lx.tokAt (s.data.toList.drop k))=symE s k (Lx.symLen (s.data.toList.drop k)):=by
 rw[drop_cons s k h]
 simp only[Lx.tokAt,hc,hl,Bool.false_eq_true,if_false]
 unfold tokE symE
 by_cases h0:Lx.symLen (s[k] :: s.data.toList.drop (k+1))=0
 ·simp[h0]
 ·simp[h0]
theorem run_all (p:UInt8→Bool):∀ (l:List UInt8),∀ c∈l.take (Lx.runLen p l),p c=true
 | [],c,h=>by simp at h
 | x :: r,c,h=>by
  by_cases hx:p x=true
  ·simp only[Lx.runLen,hx,if_true,List.take_succ_cons,List.mem_cons] at h
   rcases h with rfl|h
   ·exact hx
   ·exact run_all p r c h
  ·simp[Lx.runLen,hx] at h
theorem size_ext (s:ByteArray) (k r:Nat) (h:r≤s.size):(s.extract k r).size=r - k:=by
 simp[ByteArray.size_extract];omega
theorem list_ext (s:ByteArray) (k r:Nat) (h:k≤r):(s.extract k r).data.toList=(s.data.toList.drop k).take (r - k):=by
 simp[ByteArray.data_extract]
theorem tabs_tk {w:World} {b:Nat} (h:Tabs w b) (o:Obj) (n:Nat):Tabs ((w.alloc o).drewN n) b :=
 h.keep (((Below.refl _ w).alloc (Nat.le_refl _) o).trans (below_drewN _ _ _)) (Nat.le_refl _)
set_option maxRecDepth 100000 in
theorem token_any (s:ByteArray) (b k:Nat) (w:World) (hs:s.size≤140737488355328) (hk:k<s.size) (hT:Tabs w b) :
  Calls Tryz.prog 39 #[.pointer (some ⟨b,0,none⟩),.string s,.int .i64 k] w fun e w'=>e=tokE s k (Lx.tokAt (s.data.toList.drop k))∧Below w.heap.size w w':=by
 have hbw:=hT.1
 have HTT:=hid hT
 have hc:=hT.2.1 s[k].toNat (UInt8.toNat_lt _)
 have hb:=u8lt s[k]
 clear hT
 by_cases hl:Lx.letterB s[k]=true
 ·have ht:=token_letter s k hk hl
  have h4:Lx.clsN s[k].toNat=4:=by simpa [Lx.letterB] using hl
  rw[h4] at hc
  have H4:=hid ht
  have hle:=runEndF_le Lx.wordB s k (by omega)
  have hge:=runEndF_ge Lx.wordB s k
  have HSZ:=hid (size_ext s k _ hle)
  clear ht h4 hl
  by_cases h24:24<runEndF Lx.wordB s k - k
  ·go_enter Tryz.func39,Tryz.ntmps39
   go_wp2
   go_quiet (fail)
   clear hc hb
   go_wp2_with fail
   refine(runEnd_any Lx.wordB 28 bits_word s b k _ (by unfold maxLen;omega) (by omega) (tabs_tk HTT.out _ _).2.1).mono ?_
   rintro e w' ⟨rfl,m,rfl⟩
   go_wp2_with fail
   refine(name_err _ k _ (by rw[HSZ.out];exact h24)).mono ?_
   rintro e w' ⟨rfl,hb⟩
   obtain⟨hc,hf⟩:=bcell hb
   go_wp2_with fail
   refine bodyPost_ret (v:=.tuple #[.agg #[.int .i64 0,.string ⟨#[]⟩,.int .i64 0,.int .i64 k],.int .i64 2]) (by simp[results,Tryz.results39,go_sem,hc]) rfl ⟨?_,?_⟩
   ·rw[H4.out,if_pos h24];rfl
   ·exact below4 ((((Below.refl _ _).alloc (Nat.le_refl _) _).trans (below_drewN _ _ _)).trans (hb.mono (by simp))) (Nat.le_refl _) _ _ _ _
  ·go_enter Tryz.func39,Tryz.ntmps39
   go_wp2
   go_quiet (fail)
   clear hc hb
   go_wp2_with fail
   refine(runEnd_any Lx.wordB 28 bits_word s b k _ (by unfold maxLen;omega) (by omega) (tabs_tk HTT.out _ _).2.1).mono ?_
   rintro e w' ⟨rfl,m,rfl⟩
   go_wp2_with fail
   refine(name_ok _ k _ (by rw[HSZ.out];omega)).mono ?_
   rintro e w' ⟨rfl,hb⟩
   obtain⟨hc,hf⟩:=bcell hb
   go_wp2_with fail
   refine bodyPost_ret (v:=.tuple #[.agg #[.int .i64 1,.string (s.extract k (runEndF Lx.wordB s k)),.int .i64 0,.int .i64 k],.int .i64 0]) (by simp[results,Tryz.results39,go_sem,hc]) rfl ⟨?_,?_⟩
   ·rw[H4.out,if_neg h24]
    unfold tokE
    rw[if_neg (by simp),show k+(runEndF Lx.wordB s k - k)=runEndF Lx.wordB s k from by omega];rfl
   ·exact below4 ((((Below.refl _ _).alloc (Nat.le_refl _) _).trans (below_drewN _ _ _)).trans (hb.mono (by simp))) (Nat.le_refl _) _ _ _ _
 ·have hl':Lx.letterB s[k]=false:=by simpa using hl
  have h4:((Lx.clsN s[k].toNat:Int) == 4)=false:=by
   simp[Lx.letterB] at hl';simp;omega
  by_cases hd:Lx.digitB s[k]=true
  ·have ht:=token_digit s k hk hl' hd
   have h8:Lx.clsN s[k].toNat=8:=by simpa [Lx.digitB] using hd
   rw[h8] at hc
   have H4:=hid ht
   have hle:=runEndF_le Lx.digitB s k (by omega)
   have hge:=runEndF_yes Lx.digitB s k hk hd
   have hge2:=runEndF_ge Lx.digitB s (k+1)
   rw[← hge] at hge2
   have HSZ:=hid (size_ext s k _ hle)
   have HLI:=hid (list_ext s k (runEndF Lx.digitB s k) (by omega))
   have HAL:=hid (run_all Lx.digitB (s.data.toList.drop k))
   clear ht h8 hl hl' h4 hd hge
   have HNE:Hid ((s.extract k (runEndF Lx.digitB s k)).data.toList≠[]):=by
    apply hid
    intro h0
    have h1:(s.extract k (runEndF Lx.digitB s k)).data.toList.length=0:=by rw[h0];rfl
    have h2:=HSZ.out
    rw[show (s.extract k (runEndF Lx.digitB s k)).size=(s.extract k (runEndF Lx.digitB s k)).data.toList.length from by simp[-ByteArray.size_extract,-ByteArray.data_extract]] at h2
    omega
   have HDG:Hid (∀ c∈(s.extract k (runEndF Lx.digitB s k)).data.toList,Lx.digitB c=true):=by
    apply hid
    intro c hcm
    rw[HLI.out] at hcm
    refine HAL.out c ?_
    unfold runEndF at hcm
    rwa [Nat.add_sub_cancel_left] at hcm
   by_cases hx:10<runEndF Lx.digitB s k - k∨1000000000<Lx.numVal 0 ((s.data.toList.drop k).take (runEndF Lx.digitB s k - k))
   ·have HX:=hid hx
    clear hx
    go_enter Tryz.func39,Tryz.ntmps39
    go_wp2
    go_quiet (fail)
    clear hc hb
    go_wp2_with fail
    refine(runEnd_any Lx.digitB 8 bits_digit s b k _ (by unfold maxLen;omega) (by omega) (tabs_tk HTT.out _ _).2.1).mono ?_
    rintro e w' ⟨rfl,m,rfl⟩
    go_wp2_with fail
    refine(number_err _ k _ (by rw[HSZ.out];omega) HNE.out HDG.out (by rw[HSZ.out,HLI.out];exact HX.out) (tabs_tk HTT.out _ _).2.2.2).mono ?_
    rintro e w' ⟨rfl,hb⟩
    obtain⟨hc,hf⟩:=bcell hb
    go_wp2_with fail
    refine bodyPost_ret (v:=.tuple #[.agg #[.int .i64 0,.string ⟨#[]⟩,.int .i64 0,.int .i64 k],.int .i64 2]) (by simp[results,Tryz.results39,go_sem,hc]) rfl ⟨?_,?_⟩
    ·rw[H4.out,if_pos HX.out];rfl
    ·exact below4 ((((Below.refl _ _).alloc (Nat.le_refl _) _).trans (below_drewN _ _ _)).trans (hb.mono (by simp))) (Nat.le_refl _) _ _ _ _
   ·have HX:=hid hx
    clear hx
    go_enter Tryz.func39,Tryz.ntmps39
    go_wp2
    go_quiet (fail)
    clear hc hb
    go_wp2_with fail
    refine(runEnd_any Lx.digitB 8 bits_digit s b k _ (by unfold maxLen;omega) (by omega) (tabs_tk HTT.out _ _).2.1).mono ?_
    rintro e w' ⟨rfl,m,rfl⟩
    go_wp2_with fail
    refine(number_ok _ k _ HNE.out HDG.out (by rw[HSZ.out];have:=HX.out;omega) (by rw[HLI.out];have:=HX.out;omega)).mono ?_
    rintro e w' ⟨rfl,hb⟩
    obtain⟨hc,hf⟩:=bcell hb
    go_wp2_with fail
    refine bodyPost_ret (v:=.tuple #[.agg #[.int .i64 2,.string (s.extract k (runEndF Lx.digitB s k)),.int .i64 (Lx.numVal 0 (s.extract k (runEndF Lx.digitB s k)).data.toList),.int .i64 k],.int .i64 0]) (by simp[results,Tryz.results39,go_sem,hc]) rfl ⟨?_,?_⟩
    ·rw[H4.out,if_neg HX.out,HLI.out]
     unfold tokE
     rw[if_neg (by simp),show k+(runEndF Lx.digitB s k - k)=runEndF Lx.digitB s k from by omega]
     rfl
    ·exact below4 ((((Below.refl _ _).alloc (Nat.le_refl _) _).trans (below_drewN _ _ _)).trans (hb.mono (by simp))) (Nat.le_refl _) _ _ _ _
  ·have hd':Lx.digitB s[k]=false:=by simpa using hd
   have h8:((Lx.clsN s[k].toNat:Int) == 8)=false:=by
    simp[Lx.digitB] at hd';simp;omega
   have H4:=hid (token_other s k hk hl' hd')
   clear hl hl' hd hd'
   go_enter Tryz.func39,Tryz.ntmps39
   go_wp2
   go_quiet (fail)
   clear hc hb
   go_wp2_with fail
   refine(symbol_any s b k _ (by unfold maxLen;omega) hk (by simp;omega) (tabs_tk HTT.out _ _).2.2.1).mono ?_
   rintro e w' ⟨rfl,hb⟩
   obtain⟨hc,hf⟩:=bcell hb
   unfold symE
   by_cases h0:Lx.symLen (s.data.toList.drop k)=0
   ·rw[if_pos h0]
    go_wp2_with fail
    refine bodyPost_ret (v:=.tuple #[.agg #[.int .i64 0,.string ⟨#[]⟩,.int .i64 0,.int .i64 k],.int .i64 3]) (by simp[results,Tryz.results39,go_sem,hc]) rfl ⟨by rw[H4.out];unfold symE;rw[if_pos h0],?_⟩
    exact below4 ((((Below.refl _ _).alloc (Nat.le_refl _) _).trans (below_drewN _ _ _)).trans (hb.mono (by simp))) (Nat.le_refl _) _ _ _ _
   ·rw[if_neg h0]
    go_wp2_with fail
    refine bodyPost_ret (v:=.tuple #[.agg #[.int .i64 3,.string (s.extract k (k+Lx.symLen (s.data.toList.drop k))),.int .i64 0,.int .i64 k],.int .i64 0]) (by simp[results,Tryz.results39,go_sem,hc]) rfl ⟨by rw[H4.out];unfold symE;rw[if_neg h0],?_⟩
    exact below4 ((((Below.refl _ _).alloc (Nat.le_refl _) _).trans (below_drewN _ _ _)).trans (hb.mono (by simp))) (Nat.le_refl _) _ _ _ _
end Go.Proofs.YtghohohagbbajaaGreatDoor
