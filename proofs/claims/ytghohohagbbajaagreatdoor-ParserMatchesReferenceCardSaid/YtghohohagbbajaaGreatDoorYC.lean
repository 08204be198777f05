/- part of the proof -/
import Derived.RangeFuncNested
import Derived.RangeFuncBound
import Derived.RangeFuncCalls
import Derived.RangeFuncLeaves
import Derived.RangeFuncBox
import Derived.Shelf.Abstract
import Derived.Shelf.RegionOpen
import Derived.WalkKit
import Derived.OwnWalkIn
import Derived.TacticsInMore
import Derived.LoopNIn
import Derived.LoopIn
import Derived.Test.YtghohohagbbajaaGreatDoorYB
import Derived.ArgAppend
import Derived.Laws.OwnMore
import Derived.Maps.AppendAt
set_option linter.unusedVariables false
set_option linter.unusedSimpArgs false
set_option linter.unusedSectionVars false
namespace Go.Proofs.YtghohohagbbajaaGreatDoor
open Go.RowKit Go.Shelf
attribute [local go_sem] Oper.semAt_some
theorem tokens_any (s:ByteArray) (b:Nat) (w:World) :
  Calls Tryz.prog 15 #[.pointer (some ⟨b,0,none⟩),.string s] w fun e w'=>e=.returned (.func (.func 37) #[] #[.pointer (some ⟨w.heap.size,0,none⟩),.pointer (some ⟨w.heap.size+1,0,none⟩)]) ∧
   w'=(w.alloc (.cells #[.pointer (some ⟨b,0,none⟩)] 69)).alloc (.cells #[.string s] 9):=by
 go_enter Tryz.func15,Tryz.ntmps15
 go_wp2
 go_ret
 exact⟨rfl,rfl⟩
def encY (y:Lx.Yd):Array Value:=#[.agg #[.int .i64 y.tk.kind,.string ⟨y.tk.text.toArray⟩,.int .i64 y.tk.num,.int .i64 y.tk.off],.int .i64 y.err]
theorem grown_of_below {w w':World} (h:Below w.heap.size w w'):w.grownBy w' none:=⟨h.os,h.tape,h.output,h.size,fun k hk _=>h.block k hk⟩
theorem posEnd_eq (s:ByteArray) (k:Nat):Lx.posEnd s.data.toList k=gapEndF s k:=rfl
def isTok (o:Obj):Prop:=∃ c:Array Value,o=.cells c 73 (0,0)∧c.size=4
def KP (K:Nat→Prop) (A B:World):Prop:=A.heap.size≤B.heap.size∧∀ (k:Nat) (o:Obj),A.heap[k]?=some o→(K k∨isTok o)→B.heap[k]?=some o
theorem KP.trans {K:Nat→Prop} {A B C:World} (h:KP K A B) (h':KP K B C):KP K A C :=
 ⟨Nat.le_trans h.1 h'.1,fun k o ho hk=>h'.2 k o (h.2 k o ho hk) hk⟩
theorem KP.refl (K:Nat→Prop) (A:World):KP K A A:=⟨Nat.le_refl _,fun _ _ h _=>h⟩
theorem KP.of_below {K:Nat→Prop} {A B:World} (h:Below A.heap.size A B):KP K A B :=
 ⟨h.size,fun k o ho _=>(h.block k (Array.getElem?_eq_some_iff.1 ho).1).trans ho⟩
theorem KP.cell {K:Nat→Prop} {A B:World} (h:KP K A B) {k:Nat} (hk:K k) (hs:k<A.heap.size) (o:Nat):B.cell? ⟨k,o,none⟩=A.cell? ⟨k,o,none⟩ :=
 World.cell?_of_block (w:=A) ((h.2 k _ (Array.getElem?_eq_getElem hs) (.inl hk)).trans (Array.getElem?_eq_getElem hs).symm)
theorem KP.tok {K:Nat→Prop} {A B:World} (c:Array Value) (hc:c.size=4) (h:KP K (A.alloc (.cells c 73)) B) (i:Nat):B.cell? ⟨A.heap.size,i,none⟩=c[i]?:=by
 have h1:=h.2 A.heap.size (.cells c 73) (World.alloc_heap_new A _) (.inr ⟨c,rfl,hc⟩)
 have:B.cell? ⟨A.heap.size,i,none⟩=(A.alloc (.cells c 73)).cell? ⟨A.heap.size,i,none⟩:=World.cell?_of_block (w:=A.alloc (.cells c 73)) (h1.trans (World.alloc_heap_new A _).symm)
 rw[this,World.cell?_alloc_new]
theorem tok_err (l:List UInt8) (h:(Lx.tokAt l).1=0):(Lx.tokAt l).2.2≠0:=by
 unfold Lx.tokAt at *
 repeat' split at h
 all_goals first|(simp at h;done)|(simp_all;done)|skip
theorem runLen_pos (p:UInt8→Bool) (c:UInt8) (r:List UInt8) (h:p c=true):0<Lx.runLen p (c :: r):=by simp[Lx.runLen,h]
theorem tok_pos (l:List UInt8) (h:(Lx.tokAt l).1≠0):0<(Lx.tokAt l).2.1∧(Lx.tokAt l).2.1≤l.length:=by
 cases l with
 | nil=>exact absurd rfl h
 | cons c r =>
  have w1:=runLen_le Lx.wordB (c :: r)
  have d1:=runLen_le Lx.digitB (c :: r)
  unfold Lx.tokAt at *
  by_cases hl:Lx.letterB c=true
  ·have:=runLen_pos Lx.wordB c r (letter_word c hl)
   simp only[hl,if_true] at h ⊢
   split
   ·rename_i h1;rw[if_pos h1] at h;exact absurd rfl h
   ·exact⟨this,w1⟩
  ·by_cases hd:Lx.digitB c=true
   ·have:=runLen_pos Lx.digitB c r hd
    have hl':Lx.letterB c=false:=by simpa using hl
    simp only[hl',hd,if_true,Bool.false_eq_true,if_false] at h ⊢
    by_cases hx:10<Lx.runLen Lx.digitB (c :: r)∨1000000000<Lx.numVal 0 ((c :: r).take (Lx.runLen Lx.digitB (c :: r)))
    ·rw[if_pos hx] at h;exact absurd rfl h
    ·rw[if_neg hx];exact⟨this,d1⟩
   ·simp only[hl,hd] at h ⊢
    by_cases h0:Lx.symLen (c :: r)=0
    ·simp[h0] at h
    ·simp only[h0]
     refine⟨by simp;omega,?_⟩
     have:∀ n l,Lx.symFrom n l≤n:=by
      intro n;induction n with
      | zero=>intro l;exact Nat.le_refl _
      | succ n ih=>intro l;unfold Lx.symFrom;split;exact Nat.le_refl _;exact Nat.le_succ_of_le (ih l)
     have:=this (min 2 (c :: r).length) (c :: r)
     simp[Lx.symLen] at *;omega
theorem ext_eq (s:ByteArray) (k n:Nat):s.extract k (k+n)=⟨((s.data.toList.drop k).take n).toArray⟩:=by
 apply ByteArray.ext
 simp[ByteArray.data_extract]
 rw[← Array.toArray_toList (xs:=s.data.extract k (k+n))]
 simp
attribute [local go_sem] Oper.semAt_some
set_option maxRecDepth 100000 in
set_option maxHeartbeats 1000000 in
theorem iter_stops (K:Nat→Prop) (s:ByteArray) (b m Bt:Nat) (hs:s.size≤140737488355328) (w:World) (hBt:Bt+1<w.heap.size) (hK:K Bt∧K (Bt+1)∧K b∧K m∧K 4) (hc1:w.cell? ⟨Bt,0,none⟩=some (.pointer (some ⟨b,0,none⟩))) (hc2:w.cell? ⟨Bt+1,0,none⟩=some (.string s)) (hT:TabsM w b m) (n:Nat) (hn:1≤n) :
  SeqStopsK Fence.wide n Tryz.prog 37 #[.pointer (some ⟨Bt,0,none⟩),.pointer (some ⟨Bt+1,0,none⟩)] encY (KP K) (fun ys=>ys=Lx.allYields s.data.toList) (fun pre=>pre <+: Lx.allYields s.data.toList) (Lx.allYields s.data.toList).length w:=fun l J Jx W hW hJ hJx hY h0=>by
 have HY:=Lib.hid hY
 clear hY
 have hkp:KP K w W:=KP.of_below hW
 have tabs:∀ X,KP K w X→Tabs X b:=fun X h=>(hT.kept h.1 (fun k o hk ho=>h.2 k o ho (by rcases hk with rfl|rfl|rfl;exact .inl hK.2.2.1;exact .inl hK.2.2.2.1;exact .inl hK.2.2.2.2))).tabs
 have TABS:=Lib.hid tabs
 clear tabs
 have g1:=(hkp.cell hK.1 (by omega) 0).trans hc1
 have g2:=(hkp.cell hK.2.1 (by omega) 0).trans hc2
 refine callsIn_of_wp Tryz.func37 rfl trivial ?_ rfl
 simp only[Tryz.ntmps37,List.size_toArray,List.length_cons,List.length_nil,Nat.reduceAdd,Nat.reduceSub,Array.replicate_succ,Array.replicate_zero,List.push_toArray,List.append_toArray,List.nil_append,List.cons_append]
 gi_wp2
 refine⟨trivial,(callsIn_wide.2 (gapEnd_any s b 0 _ (by unfold maxLen;omega) (by omega) (TABS.out W hkp).2.1)).mono ?_⟩
 rintro e w' ⟨rfl,q,rfl⟩
 clear g1 g2
 gi_wp2
 gi_loopw [4] (fun v wr=>∃ (k f:Nat) (pre:List Lx.Yd),v=.int .i64 k∧k≤s.size∧s.size - k<f∧pre ++ Lx.yields s.data.toList f k=Lx.allYields s.data.toList∧J pre wr∧KP K w wr)
  (fun v wr=>s.size - (RowKit.intOf v).toNat)
 case atStart =>
  refine⟨gapEndF s 0,s.size+1,[],rfl,gapEndF_le s 0 (by omega),by omega,?_,?_,?_⟩
  ·simp[Lx.allYields,posEnd_eq]
  ·exact hJ [] W _ none h0 (grown_of_below (below_drewN _ _ _)) (fun r e=>by cases e)
  ·exact hkp.trans (KP.of_below (below_drewN _ _ _))
 case round =>
  obtain⟨k,f,pre,rfl,hk,hf,hp,hJp,hB⟩:=hrel
  have HT:=Lib.hid (TABS.out wr hB)
  have g1:=(hB.cell hK.1 (by omega) 0).trans hc1
  have g2:=(hB.cell hK.2.1 (by omega) 0).trans hc2
  cases f with
  | zero=>omega
  | succ f =>
  by_cases hlt:k<s.size
  ·obtain⟨t,ht⟩:∃ t,t=Lx.tokAt (s.data.toList.drop k):=⟨_,rfl⟩
   have htk:=token_any s b k wr hs hlt HT.out
   have hte:=tok_err (s.data.toList.drop k)
   have htp:=tok_pos (s.data.toList.drop k)
   rw[← ht] at htk hte htp
   rw[Lx.yields,if_pos (by simpa using hlt),← ht] at hp
   have HTK:=Lib.hid htk
   have HTT:=Lib.hid ht
   clear htk ht
   by_cases h0:t.1=0
   ·rw[if_pos h0] at hp
    have HP:=Lib.hid hp
    have hne:((t.2.2:Int) != 0)=true:=by have:=hte h0;simp;omega
    clear hp hte htp
    gi_wp2
    refine⟨trivial,(callsIn_wide.2 HTK.out).mono ?_⟩
    rintro e w1 ⟨rfl,hb1⟩
    unfold tokE
    rw[if_pos h0]
    have hJ2:=hJ pre _ _ none (hJ pre wr w1 none hJp (grown_of_below hb1) (fun r e=>by cases e)) (World.grownBy_alloc w1 (.cells #[Value.int .i64 0,Value.string ⟨#[]⟩,Value.int .i64 0,Value.int .i64 k] 73) none) (fun r e=>by cases e)
    obtain⟨fn,tmps,assign,body,hy,hR⟩:=HY.out pre ⟨⟨0,[],0,k⟩,t.2.2⟩ _ hJ2 (by have:=HP.out;rw[← this];simp)
    have hy':(Instr.yield l #[.agg #[.int .i64 0,.string ⟨#[]⟩,.int .i64 0,.int .i64 k],.int .i64 t.2.2]).run Tryz.prog (w1.alloc (.cells #[Value.int .i64 0,Value.string ⟨#[]⟩,Value.int .i64 0,Value.int .i64 k] 73))=.ok (.round l fn tmps assign body) (w1.alloc (.cells #[Value.int .i64 0,Value.string ⟨#[]⟩,Value.int .i64 0,Value.int .i64 k] 73)):=hy
    clear hy
    gi_wp2
    refine hR.mono ?_
    rintro e W3 (⟨rfl,hJ3,hk3⟩|⟨rfl,hJx3⟩)
    ·gi_wp2
     refine bodyPost_ret (results_none rfl _ _ _) rfl ?_
     exact⟨⟨_,rfl⟩,.inl ⟨_,HP.out,hJ3⟩⟩
    ·gi_wp2
     refine bodyPost_ret (results_none rfl _ _ _) rfl ?_
     exact⟨⟨_,rfl⟩,.inr ⟨_,by rw[HP.out];exact List.prefix_refl _,hJx3⟩⟩
   ·rw[if_neg h0] at hp
    have HP:=Lib.hid hp
    obtain⟨hp1,hp2⟩:=htp h0
    clear hp hte htp
    rw[List.length_drop] at hp2
    have hp3:k+t.2.1≤s.size:=by simp at hp2;omega
    gi_wp2
    refine⟨trivial,(callsIn_wide.2 HTK.out).mono ?_⟩
    rintro e w1 ⟨rfl,hb1⟩
    unfold tokE
    rw[if_neg h0,ext_eq]
    have hJ2:=hJ pre _ _ none (hJ pre wr w1 none hJp (grown_of_below hb1) (fun r e=>by cases e)) (World.grownBy_alloc w1 (.cells #[Value.int .i64 t.1,Value.string ⟨((s.data.toList.drop k).take t.2.1).toArray⟩,Value.int .i64 t.2.2,Value.int .i64 k] 73) none) (fun r e=>by cases e)
    obtain⟨fn,tmps,assign,body,hy,hR⟩:=HY.out pre ⟨⟨t.1,(s.data.toList.drop k).take t.2.1,t.2.2,k⟩,0⟩ _ hJ2 (by have:=HP.out;rw[← this];simp)
    have hy':(Instr.yield l #[.agg #[.int .i64 t.1,.string ⟨((s.data.toList.drop k).take t.2.1).toArray⟩,.int .i64 t.2.2,.int .i64 k],.int .i64 0]).run Tryz.prog (w1.alloc (.cells #[Value.int .i64 t.1,Value.string ⟨((s.data.toList.drop k).take t.2.1).toArray⟩,Value.int .i64 t.2.2,Value.int .i64 k] 73))=.ok (.round l fn tmps assign body) (w1.alloc (.cells #[Value.int .i64 t.1,Value.string ⟨((s.data.toList.drop k).take t.2.1).toArray⟩,Value.int .i64 t.2.2,Value.int .i64 k] 73)):=hy
    clear hy
    gi_wp2
    refine hR.mono ?_
    rintro e W3 (⟨rfl,hJ3,hk3⟩|⟨rfl,hJx3⟩)
    ·have hkw:=(hB.trans (KP.of_below hb1)).trans ((KP.of_below ((Below.refl _ w1).alloc (Nat.le_refl _) _)).trans hk3)
     have g3:=hk3.tok _ rfl 1
     have g4:=(hkw.cell hK.1 (by omega) 0).trans hc1
     have g5:=(hkw.cell hK.2.1 (by omega) 0).trans hc2
     have HK:=Lib.hid hkw
     clear hkw hk3
     gi_wp2
     clear g3 g4 g5
     rw[show ((k:Int)+((min t.2.1 (s.size - k):Nat):Int))=((k+t.2.1:Nat):Int) from by omega]
     refine⟨trivial,(callsIn_wide.2 (gapEnd_any s b (k+t.2.1) _ (by unfold maxLen;omega) hp3 (TABS.out W3 HK.out).2.1)).mono ?_⟩
     rintro e w' ⟨rfl,q2,rfl⟩
     gi_wp2
     have hg1:=gapEndF_le s (k+t.2.1) hp3
     have hg2:k+t.2.1≤gapEndF s (k+t.2.1):=by unfold gapEndF;omega
     go_roundw
     case rel =>
      refine⟨gapEndF s (k+t.2.1),f,_,rfl,hg1,by omega,?_,hJ _ W3 _ none hJ3 (grown_of_below (below_drewN _ _ _)) (fun r e=>by cases e),HK.out.trans (KP.of_below (below_drewN _ _ _))⟩
      rw[← HP.out,List.append_assoc];rfl
     case measure=>simp[RowKit.intOf];omega
    ·gi_wp2
     refine bodyPost_ret (results_none rfl _ _ _) rfl ?_
     exact⟨⟨_,rfl⟩,.inr ⟨_,by rw[← HP.out];exact⟨Lx.yields s.data.toList f (Lx.posEnd s.data.toList (k+t.2.1)),by simp⟩,hJx3⟩⟩
  ·gi_wp2
   go_end0
   exact⟨⟨_,rfl⟩,.inl ⟨pre,by rw[← hp,Lx.yields,if_neg (by simpa using hlt),List.append_nil],hJp⟩⟩
theorem run_append_row {P:Program} (w:World) (base:Nat) (t ty e:TypeId) (i:TypeInfo) (z:Value) (size bytes:Nat) (ht:P.underlying t=some (.slice e)) (hi:P.info? e=some i) (hz:i.zero=some z)
  (hsize:i.size=size) (hby:i.bytes=bytes) (hzs:z.cells.size=size) (hsz:0<size)
  (v:Value) (n:Nat) (xs:List Value) (hown:w.ownsRow base e size v n xs) (hn0:n=0→v=.slice none 0 0)
  (a:Addr) (c:Nat) (news:List Value) (hl:news.length=1 * size) (hnews:∀ j u,news[j]?=some u→w.cell? (a.add j)=some u) (h1:∀ u∈news,u.oneCell'=true)
  (h63:n+1≤maxLen) (hbytes:(n+1) * bytes≤140737488355328) (hbase:base≤w.heap.size) :
  ∃ v' w' row,(Builtin.append_ #[t,t] ty #[v,.slice (some a) 1 c]).run P w=.ok v' w'∧w'.ownsRow base e size v' (n+1) (xs ++ news)∧w.grownBy w' row ∧
   (∀ r,row=some r→base≤r∧∃ cur,w.heap[r]?=some (.cells cur e (0,0))∧2 * size≤cur.size):=by
 rcases hown.2 with ⟨rfl,rfl⟩|⟨g,cap,cur,rfl,hb,hg,hnc,hcm,hcs,htk⟩
 ·obtain⟨v',w',hr,h2,h3,_⟩:=run_append_own w base t ty e i z size bytes ht hi hz hsize hby hzs hsz _ 0 xs hown a 1 c news hl hnews h1 h63 hbytes hbase
  exact⟨v',w',none,hr,h2,h3,fun r e=>by cases e⟩
 ·have hpos:n≠0:=fun h=>by have:=hn0 h;simp at this
  by_cases hroom:n+1≤cap
  ·obtain⟨w',hr,h2,h3⟩:=run_append_fits w base t ty e i size ht hi hsize g n cap xs hown a 1 c news hl hnews h1 hroom
   refine⟨_,w',some g,hr,h2,h3,fun r e=>?_⟩
   cases e
   exact⟨hb,cur,hg,by rw[hcs];exact Nat.mul_le_mul_right _ (by omega)⟩
  ·obtain⟨v',w',hr,h2,h3⟩:=run_append_arg_grows w t ty e i z size bytes ht hi hz hsize hby hzs hsz ⟨g,0,none⟩ n cap xs hown.1 (hown.cells (g:=g) rfl) a 1 c news hl hnews (by omega) h63 hbytes
   refine⟨v',w',none,hr,⟨h2.1,?_⟩,h3,fun r e=>by cases e⟩
   rcases h2.2 with h|⟨g',cap',cur',e1,e2,e3⟩
   ·exact .inl h
   ·exact .inr ⟨g',cap',cur',e1,by omega,e3⟩
theorem wpListIn_append_row {F:Fence} {n:Nat} {P:Program} (w:World) {ops:Array Oper} {rest:List Oper} {o:Oper} {a:Act} {Q:Exit→Act→World→Prop}
  (hg:o.guard=none) (s x:Operand) (t:TypeId) (hop:o.op=Op.call { callee:=Callee.builtin Builtin.append,args:=#[s,x],argTypes:=#[t,t] })
  (base:Nat) (e:TypeId) (i:TypeInfo) (z:Value) (size bytes:Nat) (h1:P.underlying t=some (.slice e)) (h2:P.info? e=some i) (h3:i.zero=some z) (h4:i.size=size) (h5:i.bytes=bytes) (h6:z.cells.size=size) (h7:0<size)
  (v:Value) (k:Nat) (xs:List Value) (hs:a.eval s=v) (hown:w.ownsRow base e size v k xs) (hn0:k=0→v=.slice none 0 0) (ad:Addr) (c:Nat) (news:List Value) (hx:a.eval x=.slice (some ad) 1 c) (hn:news.length=1 * size)
  (hc:∀ j u,news[j]?=some u→w.cell? (ad.add j)=some u) (h1c:∀ u∈news,u.oneCell'=true) (b1:k+1≤maxLen) (b2:(k+1) * bytes≤140737488355328) (b3:base≤w.heap.size)
  (hK:∀ v' w' row,w'.ownsRow base e size v' (k+1) (xs ++ news)→w.grownBy w' row→(∀ r,row=some r→base≤r∧∃ cur,w.heap[r]?=some (.cells cur e (0,0))∧2 * size≤cur.size)→wpListIn F n P ops Q rest (a.put o.dst v') w') :
  wpListIn F n P ops Q (o :: rest) a w:=by
 refine wpListIn_plain hg fun K hK'=>?_
 obtain⟨v',w',row,hrun,r1,r2,r3⟩:=run_append_row (P:=P) w base t o.type e i z size bytes h1 h2 h3 h4 h5 h6 h7 v k xs hown hn0 ad c news hn hc h1c b1 b2 b3
 unfold Oper.wpIn
 refine⟨?_,?_⟩
 ·simp[Oper.about,hop,resolve,Target.leads,Sem.run_pure]
 ·rw[Oper.semAt_plain F _ _ (by rw[hop];intro c hc';cases hc')]
  simp[execOp,hop,resolve,invoke,builtin,hs,hx,hrun,Result.andThen]
  exact hK' _ _ (hK v' w' row r1 r2 r3)
theorem info30:(Tryz.prog.info? 73).map (fun i=>(i.zero,i.size,i.bytes))=some (some (.agg #[.int .i64 0,.string ⟨#[]⟩,.int .i64 0,.int .i64 0]),4,40):=by kernel_rfl
def tkCells (t:Lx.Tk):List Value:=[.int .i64 t.kind,.string ⟨t.text.toArray⟩,.int .i64 t.num,.int .i64 t.off]
def tksCells (l:List Lx.Tk):List Value:=l.flatMap tkCells
theorem tksCells_snoc (l:List Lx.Tk) (t:Lx.Tk):tksCells (l ++ [t])=tksCells l ++ tkCells t:=by simp[tksCells]
theorem lex_long (s:ByteArray) (w:World) (h:20000<s.size) (hs:s.size≤140737488355328) :
  Calls Tryz.prog 8 #[.string s] w fun e w'=>e=.returned (.tuple #[.slice none 0 0,.int .i64 2,.int .i64 20000])∧Below w.heap.size w w':=by
 have hd:decide (20000<(s.size:Int))=true:=by simp;omega
 go_enter Tryz.func8,Tryz.ntmps8
 go_wp2
 refine bodyPost_ret (v:=.tuple #[.slice none 0 0,.int .i64 2,.int .i64 20000]) (by simp[results,Tryz.results8,go_sem]) rfl ⟨rfl,?_⟩
 exact(((Below.refl _ w).alloc (Nat.le_refl _) _).alloc (by simp) _).alloc (by simp;omega) _
end Go.Proofs.YtghohohagbbajaaGreatDoor
