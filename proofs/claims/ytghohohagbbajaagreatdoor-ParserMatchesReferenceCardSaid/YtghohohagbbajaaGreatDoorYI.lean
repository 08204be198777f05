/- part of the proof -/
import Derived.Test.YtghohohagbbajaaGreatDoorYH
import Derived.Test.YtghohohagbbajaaGreatDoorYD
import Derived.OwnWalk
set_option linter.unusedVariables false
set_option linter.unusedSimpArgs false
set_option linter.unusedSectionVars false
namespace Go.Proofs.YtghohohagbbajaaGreatDoor
open Go.RowKit Go.Lib
theorem wpList_append_row {P:Program} (w:World) {ops:Array Oper} {rest:List Oper} {o:Oper} {a:Act} {Q:Exit→Act→World→Prop}
  (hg:o.guard=none) (s x:Operand) (t:TypeId) (hop:o.op=Op.call { callee:=Callee.builtin Builtin.append,args:=#[s,x],argTypes:=#[t,t] })
  (base:Nat) (e:TypeId) (i:TypeInfo) (z:Value) (size bytes:Nat) (h1:P.underlying t=some (.slice e)) (h2:P.info? e=some i) (h3:i.zero=some z) (h4:i.size=size) (h5:i.bytes=bytes) (h6:z.cells.size=size) (h7:0<size)
  (v:Value) (k:Nat) (xs:List Value) (hs:a.eval s=v) (hown:w.ownsRow base e size v k xs) (hn0:k=0→v=.slice none 0 0) (ad:Addr) (c:Nat) (news:List Value) (hx:a.eval x=.slice (some ad) 1 c) (hn:news.length=1 * size)
  (hc:∀ j u,news[j]?=some u→w.cell? (ad.add j)=some u) (h1c:∀ u∈news,u.oneCell'=true) (b1:k+1≤maxLen) (b2:(k+1) * bytes≤140737488355328) (b3:base≤w.heap.size)
  (hK:∀ v' w' row,w'.ownsRow base e size v' (k+1) (xs ++ news)→w.grownBy w' row→(∀ r,row=some r→base≤r∧∃ cur,w.heap[r]?=some (.cells cur e (0,0))∧2 * size≤cur.size)→wpList P ops Q rest (a.put o.dst v') w') :
  wpList P ops Q (o :: rest) a w:=by
 refine wpList_plain hg fun K hK'=>?_
 obtain⟨v',w',row,hrun,r1,r2,r3⟩:=run_append_row (P:=P) w base t o.type e i z size bytes h1 h2 h3 h4 h5 h6 h7 v k xs hown hn0 ad c news hn hc h1c b1 b2 b3
 unfold Oper.wp
 simp[execOp,hop,resolve,invoke,builtin,hs,hx,hrun,Result.andThen]
 exact hK' _ _ (hK v' w' row r1 r2 r3)
def TooLong (K:Nat) (x:ByteArray) (N:Nat):Prop:=K=1∧24<x.size∨K=2∧(10<x.size∨1000000000<N)
def TokSays (s:ByteArray) (k K:Nat) (x:ByteArray) (N O:Nat):Prop :=
 (K=0∧Lx.tokAt (s.data.toList.drop k)=(0,0,3)) ∨
 ((K=1∨K=2∨K=3)∧x.size≤20000∧N≤10000000000∧TooLong K x N∧Lx.tokAt (s.data.toList.drop k)=(0,0,2)) ∨
 ((K=1∨K=2∨K=3)∧x.size≤20000∧N≤10000000000∧¬ TooLong K x N∧Lx.tokAt (s.data.toList.drop k)=(K,x.size,N)∧x=s.extract k (k+x.size)∧O=k∧0<x.size∧k+x.size≤s.size)
theorem ref_token (s:ByteArray) (k:Nat) (w:World) (hs:s.size≤20000) (hk:k<s.size) :
  Calls Tryz.prog 22 #[.string s,.int .i64 k] w fun e w'=>∃ K x N O,e=.returned (.agg #[.int .i64 (K:Nat),.string x,.int .i64 (N:Nat),.int .i64 (O:Nat)])∧TokSays s k K x N O∧Below w.heap.size w w':=by
 have hdc:=drop_cons s k hk
 have hpos:∀ (p:UInt8→Bool),p s[k]=true→k<runEndF p s k:=fun p hp=>by rw[runEndF_yes p s k hk hp];have:=runEndF_ge p s (k+1);omega
 have hrun:∀ (p:UInt8→Bool),runEndF p s k=k+Lx.runLen p (s.data.toList.drop k):=fun p=>rfl
 have hxs:∀ m,k+m≤s.size→(s.extract k (k+m)).size=m:=fun m hm=>by rw[ByteArray.size_extract];omega
 by_cases hl:Lx.letterB s[k]=true
 ·refine(token_name s k w hs hk hl).mono ?_
  rintro e w' ⟨rfl,hb⟩
  have hle:=runEndF_le Lx.wordB s k (by omega)
  have hgt:=hpos Lx.wordB (Lx.letter_word' _ hl)
  obtain⟨m,hm⟩:∃ m,m=Lx.runLen Lx.wordB (s.data.toList.drop k):=⟨_,rfl⟩
  rw[hrun,← hm] at hle hgt
  have hz:=hxs m hle
  have ht:Lx.tokAt (s.data.toList.drop k)=if 24<m then (0,0,2) else (1,m,0):=by
   rw[hm,hdc];unfold Lx.tokAt;simp only[hl,if_true]
  rw[hrun,← hm]
  refine⟨1,s.extract k (k+m),0,k,rfl,?_,hb⟩
  by_cases h24:24<m
  ·right;left
   exact⟨.inl rfl,by omega,by omega,.inl ⟨rfl,by omega⟩,by rw[ht,if_pos h24]⟩
  ·right;right
   refine⟨.inl rfl,by omega,by omega,?_,by rw[ht,if_neg h24,hz],by rw[hz],rfl,by omega,by omega⟩
   rintro(⟨_,h⟩|⟨h,_⟩) <;> omega
 ·have hl':Lx.letterB s[k]=false:=by simpa using hl
  by_cases hd:Lx.digitB s[k]=true
  ·refine(token_num s k w hs hk hl' hd).mono ?_
   rintro e w' ⟨rfl,hb⟩
   have hle:=runEndF_le Lx.digitB s k (by omega)
   have hgt:=hpos Lx.digitB hd
   obtain⟨m,hm⟩:∃ m,m=Lx.runLen Lx.digitB (s.data.toList.drop k):=⟨_,rfl⟩
   rw[hrun,← hm] at hle hgt
   have hz:=hxs m hle
   obtain⟨V,hV⟩:∃ V,V=Lx.numVal 0 ((s.data.toList.drop k).take m):=⟨_,rfl⟩
   have ht:Lx.tokAt (s.data.toList.drop k)=if 10<m∨1000000000<V then (0,0,2) else (2,m,V):=by
    rw[hV,hm,hdc];unfold Lx.tokAt;simp only[hl',hd,Bool.false_eq_true,if_false,if_true]
   rw[hrun,← hm,Nat.add_sub_cancel_left,Lx.capV_zero,← hV]
   refine⟨2,s.extract k (k+m),min V 10000000000,k,rfl,?_,hb⟩
   by_cases h24:10<m∨1000000000<V
   ·right;left
    refine⟨.inr (.inl rfl),by omega,by omega,.inr ⟨rfl,?_⟩,by rw[ht,if_pos h24]⟩
    rcases h24 with h|h
    ·left;omega
    ·right;omega
   ·right;right
    have hmin:min V 10000000000=V:=by omega
    rw[hmin]
    refine⟨.inr (.inl rfl),by omega,by omega,?_,by rw[ht,if_neg h24,hz],by rw[hz],rfl,by omega,by omega⟩
    rintro(⟨h,_⟩|⟨_,h⟩)
    ·omega
    ·rw[hz] at h;exact h24 h
  ·have hd':Lx.digitB s[k]=false:=by simpa using hd
   refine(token_sym s k w hs hk hl' hd').mono ?_
   rintro e w' ⟨rfl,hb⟩
   obtain⟨m,hm⟩:∃ m,m=Lx.symLen (s.data.toList.drop k):=⟨_,rfl⟩
   have ht:Lx.tokAt (s.data.toList.drop k)=if m=0 then (0,0,3) else (3,m,0):=by
    rw[hm,hdc];unfold Lx.tokAt;simp only[hl',hd',Bool.false_eq_true,if_false]
   unfold symV
   rw[← hm]
   by_cases h0:m=0
   ·rw[if_pos h0]
    exact⟨0,⟨#[]⟩,0,0,rfl,.inl ⟨rfl,by rw[ht,if_pos h0]⟩,hb⟩
   ·rw[if_neg h0]
    have hle:k+m≤s.size:=by
     have h1:=Lx.tok_len (s.data.toList.drop k) (by rw[ht,if_neg h0];simp)
     rw[ht,if_neg h0] at h1
     have e2:s.data.toList.length=s.size:=by simp
     rw[List.length_drop,e2] at h1
     simp only at h1
     omega
    have hz:=hxs m hle
    refine⟨3,s.extract k (k+m),0,k,rfl,.inr (.inr ⟨.inr (.inr rfl),by omega,by omega,?_,by rw[ht,if_neg h0,hz],by rw[hz],rfl,by omega,by omega⟩),hb⟩
    rintro(⟨h,_⟩|⟨h,_⟩) <;> omega
def Rest (l:List UInt8) (k:Nat) (acc:List Lx.Tk):List Lx.Tk × Nat × Nat:=Lx.collect acc.length (Lx.yields l (l.length - k+1) k) acc
theorem rest_end (l:List UInt8) (k:Nat) (acc:List Lx.Tk) (h:l.length≤k):Rest l k acc=(acc,0,0):=by
 unfold Rest
 rw[show l.length - k+1=0+1 from by omega]
 unfold Lx.yields
 rw[if_neg (by omega)]
 rfl
theorem rest_err (l:List UInt8) (k:Nat) (acc:List Lx.Tk) (er:Nat) (h:k<l.length) (he:er≠0) (ht:Lx.tokAt (l.drop k)=(0,0,er)):Rest l k acc=([],er,k):=by
 unfold Rest
 unfold Lx.yields
 rw[if_pos h,ht,if_pos rfl]
 unfold Lx.collect
 rw[if_pos he]
theorem rest_full (l:List UInt8) (k:Nat) (acc:List Lx.Tk) (K m n:Nat) (h:k<l.length) (ht:Lx.tokAt (l.drop k)=(K,m,n)) (hK:K≠0) (hf:acc.length=6000):Rest l k acc=([],2,k):=by
 unfold Rest
 unfold Lx.yields
 rw[if_pos h,ht,if_neg hK]
 unfold Lx.collect
 rw[if_neg (by simp),if_pos hf]
theorem rest_next (l:List UInt8) (k:Nat) (acc:List Lx.Tk) (K m n:Nat) (h:k<l.length) (ht:Lx.tokAt (l.drop k)=(K,m,n)) (hK:K≠0) (hm:0<m) (hf:acc.length≠6000) :
  Rest l k acc=Rest l (Lx.posEnd l (k+m)) (acc ++ [⟨K,(l.drop k).take m,n,k⟩]):=by
 have hp:=Lx.posEnd_ge l (k+m)
 unfold Rest
 rw[show Lx.yields l (l.length - k+1) k=⟨⟨K,(l.drop k).take m,n,k⟩,0⟩ :: Lx.yields l (l.length - k) (Lx.posEnd l (k+m)) from by
  conv=>lhs;unfold Lx.yields
  rw[if_pos h,ht,if_neg hK]]
 conv=>lhs;unfold Lx.collect
 rw[if_neg (by simp),if_neg hf,Lx.yields_fuel l (l.length - k) (l.length - Lx.posEnd l (k+m)+1) _ (by omega) (by omega),List.length_append]
 rfl
theorem rest_start (l:List UInt8) (h:l.length≤20000):Lx.lexL l=Rest l (Lx.posEnd l 0) []:=by
 unfold Lx.lexL Rest
 rw[if_neg (by omega)]
 unfold Lx.allYields
 rw[Lx.yields_fuel l (l.length+1) (l.length - Lx.posEnd l 0+1) _ (by omega) (by omega)]
 rfl
end Go.Proofs.YtghohohagbbajaaGreatDoor
namespace Go.Proofs.YtghohohagbbajaaGreatDoor
open Go.RowKit Go.Lib Go.Shelf
def RInv (s:ByteArray) (w:World) (acc:List Lx.Tk) (v:Value) (k:Nat) (W:World):Prop :=
 W.ownsRow w.heap.size 73 4 v acc.length (tksCells acc)∧(acc.length=0→v=.slice none 0 0)∧acc.length≤6000∧k≤s.size∧Rest s.data.toList k acc=Lx.lexL s.data.toList∧Below w.heap.size w W
theorem row_below {W W':World} {base k:Nat} {v:Value} {xs:List Value} (h:W.ownsRow base 73 4 v k xs) (hb:Below W.heap.size W W'):W'.ownsRow base 73 4 v k xs:=by
 refine⟨h.1,?_⟩
 rcases h.2 with h0|⟨g,cap,cur,e1,e2,e3,e4,e5,e6,e7⟩
 ·exact .inl h0
 ·exact .inr ⟨g,cap,cur,e1,e2,(hb.block g (Array.getElem?_eq_some_iff.1 e3).1).trans e3,e4,e5,e6,e7⟩
theorem new4 (w:World) (a b c d:Value) (j:Nat) (u:Value) (hj : [a,b,c,d][j]?=some u):(w.alloc (.cells #[a,b,c,d] 73)).cell? ((⟨w.heap.size,0,none⟩:Addr).add j)=some u:=by
 have e:((⟨w.heap.size,0,none⟩:Addr).add j)=⟨w.heap.size,0+j,none⟩:=by unfold Addr.add;split <;> simp_all
 rw[e,Nat.zero_add,World.cell?_alloc_new]
 simpa using hj
theorem new4b (w:World) (o:Obj) (a b c d:Value) (j:Nat) (u:Value) (hj : [a,b,c,d][j]?=some u):((w.alloc o).alloc (.cells #[a,b,c,d] 73)).cell? ((⟨w.heap.size+1,0,none⟩:Addr).add j)=some u:=by
 have:=new4 (w.alloc o) a b c d j u hj
 rwa [World.size_alloc] at this
theorem ref_app {w wx w1:World} {row:Option Nat} (a b c d:Value) (tmp:Obj) (hb:Below w.heap.size w wx) (hg:((wx.alloc (.cells #[a,b,c,d] 73)).alloc tmp).grownBy w1 row)
  (hr:∀ r,row=some r→w.heap.size≤r∧∃ cur,((wx.alloc (.cells #[a,b,c,d] 73)).alloc tmp).heap[r]?=some (.cells cur 73 (0,0))∧2 * 4≤cur.size) :
  w1.cell? ⟨wx.heap.size,1,none⟩=some b∧Below w.heap.size w w1:=by
 have hsz:=hb.size
 have h0:((wx.alloc (.cells #[a,b,c,d] 73)).alloc tmp).heap[wx.heap.size]?=some (.cells #[a,b,c,d] 73 (0,0)):=by
  rw[Below.heap_alloc _ _ _ (by simp)];exact World.alloc_heap_new wx _
 have hne:some wx.heap.size≠row:=by
  intro e
  obtain⟨_,cur,h1,h2⟩:=hr _ e.symm
  rw[h0] at h1
  injection h1 with h1
  injection h1 with h1 _ _
  subst h1
  simp at h2
 have h1:=(hg.block wx.heap.size (by simp;omega) hne).trans h0
 refine⟨by simp[World.cell?,h1],((hb.alloc hsz _).alloc (by simp;omega) tmp).grown hg (by simp;omega) (fun k e=>(hr k e).1)⟩
set_option maxRecDepth 100000 in
set_option maxHeartbeats 2000000 in
theorem ref_lex (s:ByteArray) (w:World) (hs0:s.size≤140737488355328):Calls Tryz.prog 11 #[.string s] w (LexPost w (Lx.lexL s.data.toList)):=by
 have hlen:s.data.toList.length=s.size:=by simp
 by_cases h3:20000<s.size
 ·have hd:decide (20000<(s.size:Int))=true:=by simp;omega
  have hlex:Lx.lexL s.data.toList=([],2,20000):=by unfold Lx.lexL;rw[if_pos (by omega)]
  rw[hlex]
  go_enter Tryz.func11,Tryz.ntmps11
  go_wp2_with fail
  refine bodyPost_ret (v:=.tuple #[.slice none 0 0,.int .i64 2,.int .i64 20000]) (by simp[results,Tryz.results11,go_sem]) rfl ?_
  exact⟨.slice none 0 0,rfl,World.ownsRow_nil _ _ _ _,fun _=>rfl,Below.refl _ _⟩
 ·have hd:decide (20000<(s.size:Int))=false:=by simp;omega
  obtain⟨i0,hi0,hz0,hz1,hz2⟩:=info_parts info30
  have hg0:=gapEndF_le s 0 (by omega)
  have hI0:RInv s w [] (.slice none 0 0) (gapEndF s 0) w:=⟨World.ownsRow_nil _ _ _ _,fun _=>rfl,by simp,hg0,(Lx.lexL s.data.toList |> fun _=>(rest_start s.data.toList (by omega)).symm),Below.refl _ _⟩
  have HI0:=hid hI0
  have HLEN:=hid hlen
  clear hlen hI0 hg0
  go_enter Tryz.func11,Tryz.ntmps11
  go_wp2_with fail
  refine(gap_any s 0 _ (by unfold maxLen;omega) (by omega)).mono ?_
  rintro e w ⟨rfl,rfl⟩
  go_wp2_with fail
  go_loopw [5,6] (fun va vk wr=>∃ (acc:List Lx.Tk) (k:Nat),vk=.int .i64 k∧RInv s w acc va k wr) (fun _ vk _=>s.size - (RowKit.intOf vk).toNat)
  case atStart=>exact⟨[],gapEndF s 0,rfl,HI0.out⟩
  case round =>
   obtain⟨acc,k,rfl,hinv⟩:=hrel
   obtain⟨hrow,hnil,hac,hk,hrest,hbel⟩:=hinv
   obtain⟨av,cap,rfl⟩:=row_shape hrow
   have HREST:=hid hrest
   have HROW:=hid hrow
   have HNIL:=hid hnil
   clear hrest hrow hnil
   by_cases hkl:k<s.size
   ·have hd2:decide (k<s.size)=true:=by simpa using hkl
    go_wp2_with fail
    refine(ref_token s k wr (by omega) hkl).mono ?_
    rintro e wx ⟨K,x,N,O,rfl,hsays,hbx⟩
    have hbx2:Below w.heap.size w wx:=hbel.trans (hbx.mono hbel.size)
    have HROW2:=hid (row_below HROW.out hbx)
    rcases hsays with ⟨rfl,ht⟩|⟨hK,hx2,hN,hlong,ht⟩|⟨hK,hx2,hN,hnl,ht,hxe,hO,hpos,hfit⟩
    ·have hr:=HREST.out
     rw[rest_err _ k acc 3 (by rw[HLEN.out];exact hkl) (by decide) ht] at hr
     have HR:=hid hr
     clear ht hr
     go_wp2_with fail
     rw[← HR.out]
     refine bodyPost_ret (v:=.tuple #[.slice none 0 0,.int .i64 3,.int .i64 k]) (by simp[results,Tryz.results11,go_sem]) rfl ?_
     exact⟨.slice none 0 0,rfl,World.ownsRow_nil _ _ _ _,fun _=>rfl,hbx2.alloc hbx2.size _⟩
    ·have hr:=HREST.out
     rw[rest_err _ k acc 2 (by rw[HLEN.out];exact hkl) (by decide) ht] at hr
     have HR:=hid hr
     clear ht hr
     have k0:((K:Int) == 0)=false:=by simp;omega
     by_cases h6:acc.length=6000
     ·have d6:((acc.length:Int) == 6000)=true:=by simp;omega
      go_wp2_with fail
      rw[← HR.out]
      refine bodyPost_ret (v:=.tuple #[.slice none 0 0,.int .i64 2,.int .i64 k]) (by simp[results,Tryz.results11,go_sem]) rfl ?_
      exact⟨.slice none 0 0,rfl,World.ownsRow_nil _ _ _ _,fun _=>rfl,hbx2.alloc hbx2.size _⟩
     ·have d6:((acc.length:Int) == 6000)=false:=by simp;omega
      rcases hlong with ⟨rfl,hx⟩|⟨rfl,hx⟩
      ·have dx:decide (24<(x.size:Int))=true:=by simp;omega
       go_wp2_with fail
       rw[← HR.out]
       refine bodyPost_ret (v:=.tuple #[.slice none 0 0,.int .i64 2,.int .i64 k]) (by simp[results,Tryz.results11,go_sem]) rfl ?_
       exact⟨.slice none 0 0,rfl,World.ownsRow_nil _ _ _ _,fun _=>rfl,hbx2.alloc hbx2.size _⟩
      ·by_cases h10:10<x.size
       ·have dx:decide (10<(x.size:Int))=true:=by simp;omega
        go_wp2_with fail
        rw[← HR.out]
        refine bodyPost_ret (v:=.tuple #[.slice none 0 0,.int .i64 2,.int .i64 k]) (by simp[results,Tryz.results11,go_sem]) rfl ?_
        exact⟨.slice none 0 0,rfl,World.ownsRow_nil _ _ _ _,fun _=>rfl,hbx2.alloc hbx2.size _⟩
       ·have dx:decide (10<(x.size:Int))=false:=by simp;omega
        have dn:decide (1000000000<(N:Int))=true:=by simp;omega
        go_wp2_with fail
        rw[← HR.out]
        refine bodyPost_ret (v:=.tuple #[.slice none 0 0,.int .i64 2,.int .i64 k]) (by simp[results,Tryz.results11,go_sem]) rfl ?_
        exact⟨.slice none 0 0,rfl,World.ownsRow_nil _ _ _ _,fun _=>rfl,hbx2.alloc hbx2.size _⟩
    ·subst O
     have k0:((K:Int) == 0)=false:=by simp;omega
     by_cases h6:acc.length=6000
     ·have d6:((acc.length:Int) == 6000)=true:=by simp;omega
      have hr:=HREST.out
      rw[rest_full _ k acc K x.size N (by rw[HLEN.out];exact hkl) ht (by omega) h6] at hr
      have HR:=hid hr
      clear ht hr hxe hnl
      go_wp2_with fail
      rw[← HR.out]
      refine bodyPost_ret (v:=.tuple #[.slice none 0 0,.int .i64 2,.int .i64 k]) (by simp[results,Tryz.results11,go_sem]) rfl ?_
      exact⟨.slice none 0 0,rfl,World.ownsRow_nil _ _ _ _,fun _=>rfl,hbx2.alloc hbx2.size _⟩
     ·have d6:((acc.length:Int) == 6000)=false:=by simp;omega
      have hr:=HREST.out
      rw[rest_next _ k acc K x.size N (by rw[HLEN.out];exact hkl) ht (by omega) hpos h6] at hr
      have hgx:=gapEndF_le s (k+x.size) hfit
      have hgk:k<gapEndF s (k+x.size):=by have:=Lx.posEnd_ge s.data.toList (k+x.size);unfold Lx.posEnd at this;unfold gapEndF;omega
      have HKX:Hid ((k:Int)+(x.size:Int)=((k+x.size:Nat):Int)):=hid (by omega)
      have htx:(⟨((s.data.toList.drop k).take x.size).toArray⟩:ByteArray)=x:=by
       conv=>rhs;rw[hxe]
       rw[ext_eq]
      obtain⟨t,ht0⟩:∃ t:Lx.Tk,t=⟨K,(s.data.toList.drop k).take x.size,N,k⟩:=⟨_,rfl⟩
      rw[← ht0] at hr
      have htc:tksCells (acc ++ [t])=tksCells acc ++ [.int .i64 K,.string x,.int .i64 N,.int .i64 k]:=by
       rw[tksCells_snoc,ht0,tkCells,htx]
      have HTC:=hid htc
      have HR:=hid hr
      have HTL:Hid ((acc ++ [t]).length=acc.length+1):=hid (by simp)
      clear htc hr ht0 htx hxe ht
      rcases hK with rfl|rfl|rfl
      ·have dx:decide (24<(x.size:Int))=false:=by
        have:¬ 24<x.size:=fun h=>hnl (.inl ⟨rfl,h⟩)
        simp;omega
       clear hnl
       go_wp2_with (at_builtin;go_loud (refine wpList_append_row _ rfl _ _ 53 rfl w.heap.size 73 i0 _ 4 40 Tryz.underlying53 hi0 hz0 hz1 hz2 rfl (by decide) _ acc.length _ rfl ((HROW2.out.alloc _).alloc _) HNIL.out ⟨wx.heap.size+1,0,none⟩ 1 [.int .i64 1,.string x,.int .i64 N,.int .i64 k] rfl rfl ?c1 ?c2 (by unfold maxLen;omega) (by omega) (by have:=hbx2.size;simp;omega) ?_))
       case c1=>exact fun j u hj=>new4b _ _ _ _ _ _ _ _ hj
       case c2=>simp[Value.oneCell']
       intro v' w1 row hown' hgrow hrow'
       obtain⟨hcx,hbx3⟩:=ref_app _ _ _ _ _ hbx2 hgrow hrow'
       have hown2:w1.ownsRow w.heap.size 73 4 v' (acc.length+1) (tksCells (acc ++ [t])):=by rw[HTC.out];exact hown'
       obtain⟨av',cap',rfl⟩:=row_shape hown'
       have HOWN:=hid hown2
       clear hown2 hown' hgrow hrow'
       go_wp2_with fail
       rw[HKX.out]
       refine(gap_any s (k+x.size) _ (by unfold maxLen;omega) hfit).mono ?_
       rintro e w1 ⟨rfl,rfl⟩
       go_wp2_with fail
       go_roundw
       case rel=>exact⟨acc ++ [t],gapEndF s (k+x.size),rfl,by simpa [HTL.out] using HOWN.out,fun h=>by simp at h,by simp;omega,hgx,HR.out,hbx3⟩
       case measure=>simp[RowKit.intOf];omega
      ·have dx:decide (10<(x.size:Int))=false:=by
        have:¬ 10<x.size:=fun h=>hnl (.inr ⟨rfl,.inl h⟩)
        simp;omega
       have dn:decide (1000000000<(N:Int))=false:=by
        have:¬ 1000000000<N:=fun h=>hnl (.inr ⟨rfl,.inr h⟩)
        simp;omega
       clear hnl
       go_wp2_with (at_builtin;go_loud (refine wpList_append_row _ rfl _ _ 53 rfl w.heap.size 73 i0 _ 4 40 Tryz.underlying53 hi0 hz0 hz1 hz2 rfl (by decide) _ acc.length _ rfl ((HROW2.out.alloc _).alloc _) HNIL.out ⟨wx.heap.size+1,0,none⟩ 1 [.int .i64 2,.string x,.int .i64 N,.int .i64 k] rfl rfl ?c1 ?c2 (by unfold maxLen;omega) (by omega) (by have:=hbx2.size;simp;omega) ?_))
       case c1=>exact fun j u hj=>new4b _ _ _ _ _ _ _ _ hj
       case c2=>simp[Value.oneCell']
       intro v' w1 row hown' hgrow hrow'
       obtain⟨hcx,hbx3⟩:=ref_app _ _ _ _ _ hbx2 hgrow hrow'
       have hown2:w1.ownsRow w.heap.size 73 4 v' (acc.length+1) (tksCells (acc ++ [t])):=by rw[HTC.out];exact hown'
       obtain⟨av',cap',rfl⟩:=row_shape hown'
       have HOWN:=hid hown2
       clear hown2 hown' hgrow hrow'
       go_wp2_with fail
       rw[HKX.out]
       refine(gap_any s (k+x.size) _ (by unfold maxLen;omega) hfit).mono ?_
       rintro e w1 ⟨rfl,rfl⟩
       go_wp2_with fail
       go_roundw
       case rel=>exact⟨acc ++ [t],gapEndF s (k+x.size),rfl,by simpa [HTL.out] using HOWN.out,fun h=>by simp at h,by simp;omega,hgx,HR.out,hbx3⟩
       case measure=>simp[RowKit.intOf];omega
      ·clear hnl
       go_wp2_with (at_builtin;go_loud (refine wpList_append_row _ rfl _ _ 53 rfl w.heap.size 73 i0 _ 4 40 Tryz.underlying53 hi0 hz0 hz1 hz2 rfl (by decide) _ acc.length _ rfl ((HROW2.out.alloc _).alloc _) HNIL.out ⟨wx.heap.size+1,0,none⟩ 1 [.int .i64 3,.string x,.int .i64 N,.int .i64 k] rfl rfl ?c1 ?c2 (by unfold maxLen;omega) (by omega) (by have:=hbx2.size;simp;omega) ?_))
       case c1=>exact fun j u hj=>new4b _ _ _ _ _ _ _ _ hj
       case c2=>simp[Value.oneCell']
       intro v' w1 row hown' hgrow hrow'
       obtain⟨hcx,hbx3⟩:=ref_app _ _ _ _ _ hbx2 hgrow hrow'
       have hown2:w1.ownsRow w.heap.size 73 4 v' (acc.length+1) (tksCells (acc ++ [t])):=by rw[HTC.out];exact hown'
       obtain⟨av',cap',rfl⟩:=row_shape hown'
       have HOWN:=hid hown2
       clear hown2 hown' hgrow hrow'
       go_wp2_with fail
       rw[HKX.out]
       refine(gap_any s (k+x.size) _ (by unfold maxLen;omega) hfit).mono ?_
       rintro e w1 ⟨rfl,rfl⟩
       go_wp2_with fail
       go_roundw
       case rel=>exact⟨acc ++ [t],gapEndF s (k+x.size),rfl,by simpa [HTL.out] using HOWN.out,fun h=>by simp at h,by simp;omega,hgx,HR.out,hbx3⟩
       case measure=>simp[RowKit.intOf];omega
   ·have hd2:decide (k<s.size)=false:=by simpa using hkl
    have hr:=HREST.out
    rw[rest_end _ k acc (by rw[HLEN.out];omega)] at hr
    have HR:=hid hr
    clear hr
    go_wp2_with fail
    rw[← HR.out]
    refine bodyPost_ret (v:=.tuple #[.slice av acc.length cap,.int .i64 0,.int .i64 0]) (by simp[results,Tryz.results11,go_sem]) rfl ?_
    exact⟨_,rfl,HROW.out,fun h=>HNIL.out (by simp at h;simp[h]),hbel⟩
end Go.Proofs.YtghohohagbbajaaGreatDoor
