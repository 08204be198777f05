/- part of the proof -/
import Derived.Test.YtghohohagbbajaaGreatDoorYF
import Derived.Test.YtghohohagbbajaaGreatDoorYA
import Derived.Test.YtghohohagbbajaaGreatDoorYD
import Derived.Test.YtghohohagbbajaaGreatDoorYG
set_option linter.unusedVariables false
set_option linter.unusedSimpArgs false
set_option linter.unusedSectionVars false
namespace Go.Proofs.YtghohohagbbajaaGreatDoor
open Go.RowKit Go.Lib
def refSyms:List (List UInt8):=[[58,58],[61,61],[38,33],[45,62],[60],[62],[40],[41],[123],[125],[91],[93],[44],[59],[58],[46],[61],[43],[45],[42],[38]]
def rsB (j:Nat):ByteArray:=⟨(refSyms.getD j []).toArray⟩
theorem symbols_any (w:World):Calls Tryz.prog 60 #[] w fun e w'=>e=.returned (.slice (some ⟨w.heap.size,0,none⟩) 21 21) ∧
  (∀ j,j<21→w'.cell? ⟨w.heap.size,j,none⟩=some (.string (rsB j)))∧w'.heap.size=w.heap.size+1∧Below w.heap.size w w':=by
 go_enter Tryz.func60,Tryz.ntmps60
 go_wp2
 go_ret
 refine⟨rfl,fun j hj=>?_,by simp,(Below.refl _ _).alloc (Nat.le_refl _) _⟩
 rw[World.cell?_alloc_new]
 have e : #[Value.string ⟨#[58,58]⟩,.string ⟨#[61,61]⟩,.string ⟨#[38,33]⟩,.string ⟨#[45,62]⟩,.string ⟨#[60]⟩,.string ⟨#[62]⟩,.string ⟨#[40]⟩,.string ⟨#[41]⟩,.string ⟨#[123]⟩,.string ⟨#[125]⟩,.string ⟨#[91]⟩,.string ⟨#[93]⟩,.string ⟨#[44]⟩,.string ⟨#[59]⟩,.string ⟨#[58]⟩,.string ⟨#[46]⟩,.string ⟨#[61]⟩,.string ⟨#[43]⟩,.string ⟨#[45]⟩,.string ⟨#[42]⟩,.string ⟨#[38]⟩]=((List.range 21).map fun j=>Value.string (rsB j)).toArray:=rfl
 rw[e,List.getElem?_toArray,List.getElem?_map,List.getElem?_range hj];rfl
def Begins (l:List UInt8) (j:Nat):Prop:=(refSyms.getD j []).length≤l.length∧l.take (refSyms.getD j []).length=refSyms.getD j []
theorem ref_len:∀ j,j<21→((refSyms.getD j []).length=1∨(refSyms.getD j []).length=2)∧Lx.isSym (refSyms.getD j [])=true∧(4≤j→(refSyms.getD j []).length=1):=by decide
theorem ref_of (x:List UInt8) (h:Lx.isSym x=true):(∃ j,j<21∧refSyms.getD j []=x∧(x.length=2→j<4))∧(x.length=1∨x.length=2):=by
 have h1:∀ y∈Lx.syms,(∃ j:Fin 21,refSyms.getD j.1 []=y∧(y.length=2→j.1<4))∧(y.length=1∨y.length=2):=by decide +kernel
 obtain⟨⟨j,h2,h3⟩,h4⟩:=h1 x (by simpa [Lx.isSym] using h)
 exact⟨⟨j.1,j.2,h2,h3⟩,h4⟩
theorem sym_none (l:List UInt8) (h:∀ j,j<21→¬ Begins l j):Lx.symLen l=0:=by
 rw[Lx.symLen_cases]
 have no:∀ n,n≤l.length→Lx.isSym (l.take n)=true→False:=by
  intro n hn hs
  obtain⟨⟨j,h1,h2,_⟩,_⟩:=ref_of _ hs
  have hl:(refSyms.getD j []).length=n:=by rw[h2,List.length_take];omega
  exact h j h1 ⟨by omega,by rw[hl,h2]⟩
 rw[if_neg (fun x=>no 2 x.1 x.2),if_neg (fun x=>no 1 x.1 x.2)]
theorem sym_found (l:List UInt8) (j:Nat) (hj:j<21) (h:∀ i,i<j→¬ Begins l i) (hb:Begins l j):Lx.symLen l=(refSyms.getD j []).length:=by
 rw[Lx.symLen_cases]
 obtain⟨h1,h2,h3⟩:=ref_len j hj
 obtain⟨b1,b2⟩:=hb
 rcases h1 with h1|h1
 ·rw[h1] at b1 b2 ⊢
  rw[if_neg,if_pos ⟨b1,by rw[b2];exact h2⟩]
  rintro⟨g1,g2⟩
  obtain⟨⟨i,i1,i2,i3⟩,_⟩:=ref_of _ g2
  have hl:(refSyms.getD i []).length=2:=by rw[i2,List.length_take];omega
  have i4:=i3 (by rw[← i2];exact hl)
  rcases Nat.lt_or_ge i j with hij|hij
  ·exact h i hij ⟨by omega,by rw[hl,i2]⟩
  ·by_cases hj4:j<4
   ·have h4:∀ j,j<4→(refSyms.getD j []).length=2:=by decide
    have:=h4 j hj4
    omega
   ·omega
 ·rw[h1] at b1 b2 ⊢
  rw[if_pos ⟨b1,by rw[b2];exact h2⟩]
theorem rsB_size (j:Nat):(rsB j).size=(refSyms.getD j []).length:=by simp[rsB,ByteArray.size]
theorem rsB_begins (s:ByteArray) (k j:Nat) (hk:k<s.size) (hle:k+(rsB j).size≤s.size):((s.extract k (k+(rsB j).size)).toList == (rsB j).toList)=true ↔ Begins (s.data.toList.drop k) j:=by
 rw[beq_iff_eq,ByteArray.toList_eq,ByteArray.toList_eq,list_ext s k (k+(rsB j).size) (by omega),Nat.add_sub_cancel_left,rsB_size]
 rw[rsB_size] at hle
 unfold Begins
 have e:(rsB j).data.toList=refSyms.getD j []:=by simp[rsB]
 rw[e]
 constructor
 ·intro h;exact⟨by rw[List.length_drop,show s.data.toList.length=s.size by simp];omega,h⟩
 ·exact fun h=>h.2
theorem rsB_not (s:ByteArray) (k j:Nat) (hk:k<s.size) (hle:¬ k+(rsB j).size≤s.size):¬ Begins (s.data.toList.drop k) j:=by
 rw[rsB_size] at hle
 rintro⟨h,_⟩
 have e2:s.data.toList.length=s.size:=by simp
 rw[List.length_drop,e2] at h
 omega
theorem rsB_text (s:ByteArray) (k j:Nat) (hk:k<s.size) (h:Begins (s.data.toList.drop k) j):rsB j=s.extract k (k+(refSyms.getD j []).length):=by
 apply ByteArray.ext
 apply Array.ext'
 obtain⟨h1,h2⟩:=h
 rw[list_ext s k _ (by omega),Nat.add_sub_cancel_left,h2]
 simp[rsB]
def symV (s:ByteArray) (k:Nat):Value :=
 if Lx.symLen (s.data.toList.drop k)=0 then .agg #[.int .i64 0,.string ⟨#[]⟩,.int .i64 0,.int .i64 0]
 else .agg #[.int .i64 3,.string (s.extract k (k+Lx.symLen (s.data.toList.drop k))),.int .i64 0,.int .i64 k]
set_option maxRecDepth 100000 in
set_option maxHeartbeats 1000000 in
theorem token_sym (s:ByteArray) (k:Nat) (w:World) (hs:s.size≤20000) (hk:k<s.size) (hl:Lx.letterB s[k]=false) (hd:Lx.digitB s[k]=false) :
  Calls Tryz.prog 22 #[.string s,.int .i64 k] w fun e w'=>e=.returned (symV s k)∧Below w.heap.size w w':=by
 have H0:=hid hl
 have H1:=hid hd
 clear hl hd
 go_enter Tryz.func22,Tryz.ntmps22
 go_wp2_with fail
 refine(letter_any s[k] _).mono ?_
 rintro e w' ⟨rfl,rfl⟩
 rw[H0.out]
 go_wp2_with fail
 refine(digit_any s[k] _).mono ?_
 rintro e w' ⟨rfl,rfl⟩
 rw[H1.out]
 go_wp2_with fail
 obtain⟨W0,hW0⟩:∃ W0:World,W0=w.alloc (.cells #[.int .i64 0,.string ⟨#[]⟩,.int .i64 0,.int .i64 0] 73):=⟨_,rfl⟩
 have hb0:Below w.heap.size w W0:=by rw[hW0];exact(Below.refl _ _).alloc (Nat.le_refl _) _
 have bx0:Boxed W0 w.heap.size 73 (.int .i64 0)∨True:=.inr trivial
 have hlt0:w.heap.size<W0.heap.size:=by rw[hW0];simp
 have hobj:W0.heap[w.heap.size]?=some (.cells #[.int .i64 0,.string ⟨#[]⟩,.int .i64 0,.int .i64 0] 73 (0,0)):=by rw[hW0];exact World.alloc_heap_new w _
 rw[← hW0]
 clear hW0 bx0
 refine(symbols_any W0).mono ?_
 rintro e w2 ⟨rfl,hc2,hz2,hb2⟩
 have hbw:Below w.heap.size w w2:=hb0.trans (hb2.mono hb0.size)
 have hobj2:w2.heap[w.heap.size]?=some (.cells #[.int .i64 0,.string ⟨#[]⟩,.int .i64 0,.int .i64 0] 73 (0,0)):=(hb2.block _ hlt0).trans hobj
 have HC2:=hid hc2
 clear hc2 hobj hb2 hb0
 have q0:w2.cell? ⟨w.heap.size,0,none⟩=some (.int .i64 0):=by simp[World.cell?,hobj2]
 have q1:w2.cell? ⟨w.heap.size,1,none⟩=some (.string ⟨#[]⟩):=by simp[World.cell?,hobj2]
 have q2:w2.cell? ⟨w.heap.size,2,none⟩=some (.int .i64 0):=by simp[World.cell?,hobj2]
 have q3:w2.cell? ⟨w.heap.size,3,none⟩=some (.int .i64 0):=by simp[World.cell?,hobj2]
 have z0:w2.frozen? ⟨w.heap.size,0,none⟩=false:=by simp[World.frozen?,hobj2]
 have z1:w2.frozen? ⟨w.heap.size,1,none⟩=false:=by simp[World.frozen?,hobj2]
 have z2:w2.frozen? ⟨w.heap.size,2,none⟩=false:=by simp[World.frozen?,hobj2]
 have z3:w2.frozen? ⟨w.heap.size,3,none⟩=false:=by simp[World.frozen?,hobj2]
 clear hobj2
 go_wp2_with fail
 go_loopw [8] (fun vi wr=>∃ i n:Nat,vi=.int .i64 i∧i≤21∧wr=w2.drewN n∧∀ j,j<i→¬ Begins (s.data.toList.drop k) j) (fun vi _=>21 - (RowKit.intOf vi).toNat)
 case atStart=>exact⟨0,0,rfl,by omega,rfl,fun j hj=>by omega⟩
 case round =>
  obtain⟨i,n,rfl,hi,rfl,hno⟩:=hrel
  by_cases hil:i<21
  ·have hd3:decide ((i:Int)<21)=true:=by simp;omega
   have cX:=HC2.out i hil
   have hm:=rsB_size i
   have hlen2:=(ref_len i hil).1
   have hx2:(rsB i).size≤2:=by omega
   by_cases hfit:k+(rsB i).size≤s.size
   ·by_cases hbg:Begins (s.data.toList.drop k) i
    ·have heq:=(rsB_begins s k i hk hfit).2 hbg
     have hsl:=sym_found _ i hil hno hbg
     have htx:=rsB_text s k i hk hbg
     have hV:symV s k=.agg #[.int .i64 3,.string (rsB i),.int .i64 0,.int .i64 k]:=by
      unfold symV
      rw[if_neg (by omega),hsl,← htx]
     have HV:=hid hV
     clear hV hsl htx hbg hno hlen2 hm
     generalize rsB i=x at *
     have hdf:decide ((k:Int)+(x.size:Int)≤(s.size:Int))=true:=by simp;omega
     go_wp2_with fail
     go_quiet (fail)
     go_wp2_with fail
     rw[HV.out]
     refine bodyPost_ret (v:=.agg #[.int .i64 3,.string x,.int .i64 0,.int .i64 k]) (by simp[results,Tryz.results22,go_sem,q0,q1,q2,q3]) rfl ⟨rfl,?_⟩
     exact below4 (hbw.trans (below_drewN _ _ _)) (Nat.le_refl _) _ _ _ _
    ·have heq:((s.extract k (k+(rsB i).size)).toList == (rsB i).toList)=false:=by
      rw[Bool.eq_false_iff];exact fun h=>hbg ((rsB_begins s k i hk hfit).1 h)
     have HNO:Hid (∀ j,j<i+1→¬ Begins (s.data.toList.drop k) j):=hid (fun j hj=>by
      rcases Nat.lt_or_ge j i with h|h
      ·exact hno j h
      ·obtain rfl:j=i:=by omega
       exact hbg)
     clear hbg hno hlen2 hm
     generalize rsB i=x at *
     have hdf:decide ((k:Int)+(x.size:Int)≤(s.size:Int))=true:=by simp;omega
     go_wp2_with fail
     go_quiet (fail)
     go_wp2_with fail
     go_roundw
     case rel=>exact⟨i+1,_,by go_num,by omega,rfl,HNO.out⟩
     case measure=>simp[RowKit.intOf];omega
   ·have hbg:=rsB_not s k i hk hfit
    have HNO:Hid (∀ j,j<i+1→¬ Begins (s.data.toList.drop k) j):=hid (fun j hj=>by
     rcases Nat.lt_or_ge j i with h|h
     ·exact hno j h
     ·obtain rfl:j=i:=by omega
      exact hbg)
    clear hbg hno hlen2 hm
    generalize rsB i=x at *
    have hdf:decide ((k:Int)+(x.size:Int)≤(s.size:Int))=false:=by simp;omega
    go_wp2_with fail
    go_quiet (fail)
    go_wp2_with fail
    go_roundw
    case rel=>exact⟨i+1,_,by go_num,by omega,rfl,HNO.out⟩
    case measure=>simp[RowKit.intOf];omega
  ·have hd3:decide ((i:Int)<21)=false:=by simp;omega
   have hV:symV s k=.agg #[.int .i64 0,.string ⟨#[]⟩,.int .i64 0,.int .i64 0]:=by
    unfold symV
    rw[if_pos (sym_none _ (fun j hj=>hno j (by omega)))]
   have HV:=hid hV
   clear hV hno
   go_wp2_with fail
   rw[HV.out]
   refine bodyPost_ret (v:=.agg #[.int .i64 0,.string ⟨#[]⟩,.int .i64 0,.int .i64 0]) (by simp[results,Tryz.results22,go_sem,q0,q1,q2,q3]) rfl ⟨rfl,?_⟩
   exact below4 (hbw.trans (below_drewN _ _ _)) (Nat.le_refl _) _ _ _ _
end Go.Proofs.YtghohohagbbajaaGreatDoor
