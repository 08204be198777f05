/- part of the proof -/
import Derived.Test.YtghohohagbbajaaGreatDoorYO
import Derived.Test.YtghohohagbbajaaGreatDoorYKM
import Derived.Test.YtghohohagbbajaaGreatDoorYBG
import Derived.Test.YtghohohagbbajaaGreatDoorYI
import Derived.Deep.RegionWith
import Derived.Test.YtghohohagbbajaaGreatDoorYBD
import Derived.Test.YtghohohagbbajaaGreatDoorYGH1
import Derived.Test.YtghohohagbbajaaGreatDoorYR
set_option linter.unusedVariables false
set_option linter.unusedSimpArgs false
set_option linter.unusedSectionVars false
namespace Go.Proofs.YtghohohagbbajaaGreatDoor
open Go.RowKit Go.Lib
open Lx (Tk)
open Px (Txt TyE VarD DataD TraitD BoundD ImplD ArgD ExprD StmtD ArmD FuncD ModD)
theorem ref_lex_spec (s:ByteArray) (w:World) (hs:s.size≤140737488355328) (ts:List Lx.Tk) (er at':Nat) (h:Lx.lexL s.data.toList=(ts,er,at')) :
  Calls Tryz.prog 11 #[.string s] w fun e w'=>∃ a cap,e=.returned (.tuple #[.slice a ts.length cap,.int .i64 er,.int .i64 at'])∧w'.ownsRow w.heap.size 73 4 (.slice a ts.length cap) ts.length (tksCells ts)∧Below w.heap.size w w':=by
 refine(ref_lex s w hs).mono ?_
 rintro e w' ⟨v,rfl,h1,h2,hb⟩
 rw[h] at *
 obtain⟨a,cap,rfl⟩:=row_shape h1
 exact⟨a,cap,rfl,h1,hb⟩
theorem words_kind:∀ x∈Words,((Lx.tokAt x).1=3∧Px.keyB x=false)∨((Lx.tokAt x).1=1∧Px.keyB x=true):=by decide +kernel
theorem lex_kinds {l:List UInt8} {ts:List Tk} {at':Nat} (h:Lx.lexL l=(ts,0,at')):∀ t∈ts,∀ x∈Words,t.text=x→(t.kind=3∧Px.keyB x=false)∨(t.kind=1∧Px.keyB x=true):=by
 obtain⟨h1,h2,h3,h4⟩:=Lx.lex_chain l (by rw[h])
 rw[h] at h4
 intro t ht x hx e
 obtain⟨g1,g2,g3⟩:=Lx.chain_whole l ts _ h4 t ht
 have:=words_kind x hx
 rw[← e,g2] at this
 rw[← e]
 exact this
theorem tokr_of {w:World} {base:Nat} {a:Option Addr} {cap:Nat} {ts:List Tk} (h:w.ownsRow base 73 4 (.slice a ts.length cap) ts.length (tksCells ts)) (h0:0<w.heap.size) (R sz:Nat) :
  ∃ Tb,Tb<w.heap.size∧TokR w ⟨R,Tb,sz,ts,.slice a ts.length cap⟩:=by
 by_cases hn:ts=[]
 ·subst hn
  exact⟨0,h0,.inl ⟨rfl,a,cap,rfl⟩⟩
 ·obtain⟨g,c,e,h1,h2,h3,h4⟩:=row_cell h (by simpa using hn)
  simp only[Value.slice.injEq] at e
  obtain⟨rfl,_,rfl⟩:=e
  refine⟨g,h2,.inr ⟨hn,cap,rfl,h3,fun i t hi j hj=>?_⟩⟩
  have hi':i<ts.length:=by
   rcases Nat.lt_or_ge i ts.length with h|h
   ·exact h
   ·have hi:ts[i]?=some t:=hi
    rw[List.getElem?_eq_none h] at hi;cases hi
  show w.cell? ⟨g,i * 4+j,none⟩=_
  rw[h4 _ (by omega)]
  exact toks_get ts i t hi j hj
set_option maxRecDepth 100000 in
set_option maxHeartbeats 3200000 in
theorem rparse_any (s:ByteArray) (w:World) (hs:s.size≤140737488355328) :
  Calls Tryz.prog 6 #[.string s] w (ParsePost w (Px.parseP s.data.toList)):=by
 obtain⟨ts,er,at',hr⟩:∃ ts er at',Lx.lexL s.data.toList=(ts,er,at'):=⟨_,_,_,rfl⟩
 have hlen:s.data.toList.length=s.size:=by simp
 by_cases h0:er=0
 ·subst h0
  have hp:=parseP_ok hr
  have hkd:=lex_kinds hr
  obtain⟨rfl,f1,f2,f3,f4⟩:=lex_facts hr
  rw[hlen] at f1 hp
  have HP:=hid hp
  have HR:=hid hr
  have HF3:=hid f3
  have HF4:=hid f4
  have HKD:=hid hkd
  clear hr hp hlen f3 f4 hkd
  go_enter Tryz.func6,Tryz.ntmps6
  go_wp2_with fail
  refine(ref_lex_spec s _ hs _ _ _ HR.out).mono ?_
  rintro e w1 ⟨a,cap,rfl,hrow,hb1⟩
  have HB1:Hid (Fr [] w w1):=hid (((Fr.refl _ w).alloc _).trans (Inv_below_fr hb1))
  have HD1:Hid (Blk w1 w.heap.size 29 #[.string ⟨#[]⟩,.slice none 0 0,.slice none 0 0,.slice none 0 0,.slice none 0 0,.slice none 0 0]):=hid ((Blk.new w _ _).keep (Inv_below_fr hb1) (by simp))
  have hz1:w.heap.size<w1.heap.size:=HD1.out.lt
  obtain⟨Tb,ht1,ht2⟩:=tokr_of hrow (by omega) w1.heap.size s.size
  have HT:=hid ht2
  clear hb1 hrow ht2
  go_wp2_with fail
  obtain⟨w2,hw2⟩:∃ w2,w2=w1.alloc (.cells #[.slice a ts.length cap,.int .i64 0,.int .i64 s.size,.int .i64 0,.int .i64 0] 61):=⟨_,rfl⟩
  rw[← hw2]
  have hz2:w2.heap.size=w1.heap.size+1:=by rw[hw2];simp
  have HF2:Hid (Fr [] w1 w2):=hid (by rw[hw2];exact(Fr.refl _ _).alloc _)
  have HI2:Hid (IR ⟨w1.heap.size,Tb,s.size,ts,.slice a ts.length cap⟩ (.live ts) w2):=by
   refine hid ⟨⟨0,0,0,?_,Nat.zero_le _,rfl,rfl,rfl⟩,?_,?_,?_,f2,HF3.out,HF4.out,HKD.out⟩
   ·rw[hw2];exact Blk.new _ _ _
   ·refine HT.out.same (w:=w1) ?_
    rw[hw2];exact Below.heap_alloc _ _ _ ht1
   ·show Tb<w2.heap.size;omega
   ·show Tb≠w1.heap.size;omega
  have HD2:=hid (HD1.out.keep HF2.out (by simp))
  clear hw2
  refine(rmodule_any ⟨w1.heap.size,Tb,s.size,ts,.slice a ts.length cap⟩ 6001 (.live ts) w2 HI2.out (by simp only[RS.mu];omega)).mono ?_
  rintro e w3 ⟨v3,M,s3,rfl,hq3,hf3,hi3,hv3⟩
  obtain⟨cs,rfl,hrep⟩:=hv3
  obtain⟨y1,y2,y3,y4,y5,y6,rfl⟩:=cells_6 (hrep.len.trans rfl)
  obtain⟨s1,rfl⟩:=hrep.kind 0 rfl (kind_modQ M 0 rfl)
  obtain⟨p2,n2,c2,rfl⟩:=hrep.kind 1 rfl (kind_modQ M 1 rfl)
  obtain⟨p3,n3,c3,rfl⟩:=hrep.kind 2 rfl (kind_modQ M 2 rfl)
  obtain⟨p4,n4,c4,rfl⟩:=hrep.kind 3 rfl (kind_modQ M 3 rfl)
  obtain⟨p5,n5,c5,rfl⟩:=hrep.kind 4 rfl (kind_modQ M 4 rfl)
  obtain⟨p6,n6,c6,rfl⟩:=hrep.kind 5 rfl (kind_modQ M 5 rfl)
  have hf3':Fr [w1.heap.size] w2 w3:=hf3
  have hz3:w2.heap.size≤w3.heap.size:=hf3.size
  have HD3:=hid (HD2.out.keep hf3' (by simp;omega))
  have HF3':=hid hf3'
  have HI3:=hid hi3
  have HQ3:=hid hq3.out
  have HREP:=hid hrep
  clear hf3 hf3' hi3 hq3 hrep HI2
  cases hq:Px.module s.size 6001 ts with
  | ok M' r =>
   have hq3:=HQ3.out
   have hp:=HP.out
   rw[hq] at hp
   simp only[Rel,hq] at hq3
   obtain⟨rfl,rfl⟩:=hq3
   have HPP:=hid hp
   clear hp hq
   go_wp2_with (first|(refine wpList_store_row rfl 29 _ _ rfl (w3.heap.size) #[.string s1,.slice p2 n2 c2,.slice p3 n3 c3,.slice p4 n4 c4,.slice p5 n5 c5,.slice p6 n6 c6] rfl rfl 29 _ (Blk.new_at (by simp)) mod_size rfl (by simp[Value.oneCell']) ?_;obtain⟨w4,hw4⟩:∃ w4,w4=(w3.alloc (.cells #[.string ⟨#[]⟩,.slice none 0 0,.slice none 0 0,.slice none 0 0,.slice none 0 0,.slice none 0 0] 29)).setRow w3.heap.size #[.string s1,.slice p2 n2 c2,.slice p3 n3 c3,.slice p4 n4 c4,.slice p5 n5 c5,.slice p6 n6 c6]:=⟨_,rfl⟩;rw[← hw4];have hfr:Fr [w3.heap.size] w3 w4:=(by rw[hw4];exact((Fr.refl _ _).alloc _).trans (fr_setRow _ _ _));have hz4:w3.heap.size≤w4.heap.size:=hfr.size;have HM4:Hid (Blk w4 w3.heap.size 29 #[.string s1,.slice p2 n2 c2,.slice p3 n3 c3,.slice p4 n4 c4,.slice p5 n5 c5,.slice p6 n6 c6]):=hid (by rw[hw4];exact setRow_heap _ _ _ _ _ _ (Blk.new_at (by simp)));have HD4:=hid (HD3.out.keep hfr (by simp;omega));have HI4:Hid (IR ⟨w1.heap.size,Tb,s.size,ts,.slice a ts.length cap⟩ (.live r) w4):=hid (HI3.out.fr (X:=[w3.heap.size]) HI3.out hfr (by simp));have h1:Fr [] w w2:=HB1.out.trans HF2.out;have h2:Fr [w1.heap.size,w3.heap.size] w2 w4:=(HF3'.out.mono (fun k _ hk=>by simp at hk;simp[hk])).trans (hfr.mono (fun k _ hk=>by simp at hk;simp[hk]));have HF4:Hid (Fr [] w w4):=hid ((((h1.mono (fun k _ hk=>by cases hk)).trans h2).drop (by omega)).drop (by omega));have HR4:Hid (Rep w4 (fun k=>w2.heap.size≤k) (modQ M) [.string s1,.slice p2 n2 c2,.slice p3 n3 c3,.slice p4 n4 c4,.slice p5 n5 c5,.slice p6 n6 c6]):=hid (repk HREP.out hfr (fun k hk hl=>by simp at hk hl ⊢;omega));have hlB:w.heap.size<w4.heap.size:=(by omega);have hlR:w1.heap.size<w4.heap.size:=(by omega);obtain⟨k,cap',ad,hb,ht,hk,hts,hc⟩:=HI4.out.cells;have g3:=hb.cell 3;simp at g3;have bt:Blk w4 w.heap.size 29 #[.string ⟨#[]⟩,.slice none 0 0,.slice none 0 0,.slice none 0 0,.slice none 0 0,.slice none 0 0]:=HD4.out;clear hb ht hk hts hc;clear hw4 hfr h1 h2)|(refine wpList_load_row rfl 29 _ rfl (w3.heap.size) rfl 29 #[.string s1,.slice p2 n2 c2,.slice p3 n3 c3,.slice p4 n4 c4,.slice p5 n5 c5,.slice p6 n6 c6] (0,0) _ HM4.out Tryz.underlying29 rfl mod_size ?_)|(refine wpList_store_row rfl 29 _ _ rfl w.heap.size #[.string s1,.slice p2 n2 c2,.slice p3 n3 c3,.slice p4 n4 c4,.slice p5 n5 c5,.slice p6 n6 c6] rfl rfl 29 _ bt mod_size rfl (by simp[Value.oneCell']) ?_))
   have hbs:=setRow_heap w4 w.heap.size _ #[.string s1,.slice p2 n2 c2,.slice p3 n3 c3,.slice p4 n4 c4,.slice p5 n5 c5,.slice p6 n6 c6] 29 (0,0) HD4.out
   have hfs:=fr_setRow w4 w.heap.size #[.string s1,.slice p2 n2 c2,.slice p3 n3 c3,.slice p4 n4 c4,.slice p5 n5 c5,.slice p6 n6 c6]
   generalize w4.setRow w.heap.size #[.string s1,.slice p2 n2 c2,.slice p3 n3 c3,.slice p4 n4 c4,.slice p5 n5 c5,.slice p6 n6 c6]=w5 at hbs hfs ⊢
   have hl5:w.heap.size<w5.heap.size:=Nat.lt_of_lt_of_le hlB hfs.size
   have a0:w5.cell? ⟨w.heap.size,0,none⟩=some (.string s1):=(show Blk w5 w.heap.size _ _ from hbs).cell 0
   have a1:w5.cell? ⟨w.heap.size,1,none⟩=some (.slice p2 n2 c2):=(show Blk w5 w.heap.size _ _ from hbs).cell 1
   have a2:w5.cell? ⟨w.heap.size,2,none⟩=some (.slice p3 n3 c3):=(show Blk w5 w.heap.size _ _ from hbs).cell 2
   have a3:w5.cell? ⟨w.heap.size,3,none⟩=some (.slice p4 n4 c4):=(show Blk w5 w.heap.size _ _ from hbs).cell 3
   have a4:w5.cell? ⟨w.heap.size,4,none⟩=some (.slice p5 n5 c5):=(show Blk w5 w.heap.size _ _ from hbs).cell 4
   have a5:w5.cell? ⟨w.heap.size,5,none⟩=some (.slice p6 n6 c6):=(show Blk w5 w.heap.size _ _ from hbs).cell 5
   refine bodyPost_ret (v:=.tuple #[.agg #[.string s1,.slice p2 n2 c2,.slice p3 n3 c3,.slice p4 n4 c4,.slice p5 n5 c5,.slice p6 n6 c6],.int .i64 0,.int .i64 0]) (by simp[results,Tryz.results6,go_sem,a0,a1,a2,a3,a4,a5,hl5]) rfl ?_
   unfold ParsePost
   rw[HPP.out]
   exact⟨((HF4.out.mono (fun k _ hk=>by cases hk)).trans hfs).drop (Nat.le_refl _),_,rfl,rep_own (b:=w.heap.size) HR4.out (X:=[w.heap.size]) hfs (by simp;omega) (by omega)⟩
  | bad r =>
   have hq3:=HQ3.out
   have hp:=HP.out
   rw[hq] at hp
   simp only[Rel,hq] at hq3
   subst hq3
   have HPP:Hid (Px.parseP s.data.toList=(none,errOf r,offOf s.size r)):=hid (by rw[hp];cases r <;> rfl)
   clear hp hq
   go_wp2_with (refine wpList_store_row rfl 29 _ _ rfl (w3.heap.size) #[.string s1,.slice p2 n2 c2,.slice p3 n3 c3,.slice p4 n4 c4,.slice p5 n5 c5,.slice p6 n6 c6] rfl rfl 29 _ (Blk.new_at (by simp)) mod_size rfl (by simp[Value.oneCell']) ?_;obtain⟨w4,hw4⟩:∃ w4,w4=(w3.alloc (.cells #[.string ⟨#[]⟩,.slice none 0 0,.slice none 0 0,.slice none 0 0,.slice none 0 0,.slice none 0 0] 29)).setRow w3.heap.size #[.string s1,.slice p2 n2 c2,.slice p3 n3 c3,.slice p4 n4 c4,.slice p5 n5 c5,.slice p6 n6 c6]:=⟨_,rfl⟩;rw[← hw4];have hfr:Fr [w3.heap.size] w3 w4:=(by rw[hw4];exact((Fr.refl _ _).alloc _).trans (fr_setRow _ _ _));have hz4:w3.heap.size≤w4.heap.size:=hfr.size;have HM4:Hid (Blk w4 w3.heap.size 29 #[.string s1,.slice p2 n2 c2,.slice p3 n3 c3,.slice p4 n4 c4,.slice p5 n5 c5,.slice p6 n6 c6]):=hid (by rw[hw4];exact setRow_heap _ _ _ _ _ _ (Blk.new_at (by simp)));have HD4:=hid (HD3.out.keep hfr (by simp;omega));have HI4:Hid (IR ⟨w1.heap.size,Tb,s.size,ts,.slice a ts.length cap⟩ (.dead (errOf r) (offOf s.size r)) w4):=hid (HI3.out.fr (X:=[w3.heap.size]) HI3.out hfr (by simp));have h1:Fr [] w w2:=HB1.out.trans HF2.out;have h2:Fr [w1.heap.size,w3.heap.size] w2 w4:=(HF3'.out.mono (fun k _ hk=>by simp at hk;simp[hk])).trans (hfr.mono (fun k _ hk=>by simp at hk;simp[hk]));have HF4:Hid (Fr [] w w4):=hid ((((h1.mono (fun k _ hk=>by cases hk)).trans h2).drop (by omega)).drop (by omega));have HR4:Hid (Rep w4 (fun k=>w2.heap.size≤k) (modQ M) [.string s1,.slice p2 n2 c2,.slice p3 n3 c3,.slice p4 n4 c4,.slice p5 n5 c5,.slice p6 n6 c6]):=hid (repk HREP.out hfr (fun k hk hl=>by simp at hk hl ⊢;omega));have hlB:w.heap.size<w4.heap.size:=(by omega);have hlR:w1.heap.size<w4.heap.size:=(by omega);obtain⟨k,cap',ad,hb,ht,hk,he,hc⟩:=HI4.out.dcells;have g3:=hb.cell 3;have g4:=hb.cell 4;simp at g3 g4;have hd:((errOf r:Int) != 0)=true:=(by simp;omega);have a0:=HD4.out.at 0 (v:=.string ⟨#[]⟩) rfl;have b0:=HD4.out.frozen 0;have a1:=HD4.out.at 1 (v:=.slice none 0 0) rfl;have b1:=HD4.out.frozen 1;have a2:=HD4.out.at 2 (v:=.slice none 0 0) rfl;have b2:=HD4.out.frozen 2;have a3:=HD4.out.at 3 (v:=.slice none 0 0) rfl;have b3:=HD4.out.frozen 3;have a4:=HD4.out.at 4 (v:=.slice none 0 0) rfl;have b4:=HD4.out.frozen 4;have a5:=HD4.out.at 5 (v:=.slice none 0 0) rfl;have b5:=HD4.out.frozen 5;have hne1:w1.heap.size≠w.heap.size:=(by omega);have hne2:w.heap.size≠w1.heap.size:=(by omega);clear hb ht hk he hc;clear hw4 hfr h1 h2)
   go_region_with fail
   all_goals try go_wp2_with fail
   all_goals
    refine bodyPost_ret (v:=.tuple #[zeroM,.int .i64 (errOf r),.int .i64 (offOf s.size r)]) (by simp[results,Tryz.results6,go_sem,a0,a1,a2,a3,a4,a5,b0,b1,b2,b3,b4,b5,hlB]) rfl ?_
    unfold ParsePost
    rw[HPP.out]
    refine⟨((HF4.out.mono (Y:=[w.heap.size]) (fun k _ hk=>by cases hk)).trans ?_).drop (Nat.le_refl _),rfl⟩
    repeat' (first|with_reducible exact Fr.refl _ _|with_reducible refine Fr.setCell ?_ (Or.inl ?_) _|with_reducible refine Fr.drew ?_|with_reducible refine Fr.drewN ?_ _|(simp;done))
 ·have hp:=parseP_err hr h0
  have he0:((er:Int) != 0)=true:=by simp;omega
  have HP:=hid hp
  have HR:=hid hr
  clear hr hp hlen h0
  go_enter Tryz.func6,Tryz.ntmps6
  go_wp2_with fail
  refine(ref_lex_spec s _ hs _ _ _ HR.out).mono ?_
  rintro e w1 ⟨a,cap,rfl,hrow,hb1⟩
  have HB1:Hid (Fr [] w w1):=hid (((Fr.refl _ w).alloc _).trans (Inv_below_fr hb1))
  have HD1:Hid (Blk w1 w.heap.size 29 #[.string ⟨#[]⟩,.slice none 0 0,.slice none 0 0,.slice none 0 0,.slice none 0 0,.slice none 0 0]):=hid ((Blk.new w _ _).keep (Inv_below_fr hb1) (by simp))
  have hlD:=HD1.out.lt
  clear hb1 hrow
  obtain⟨a0,a1,a2,a3,a4,a5,b0,b1,b2,b3,b4,b5⟩:=HD1.out.cf6
  go_wp2_with fail
  refine bodyPost_ret (v:=.tuple #[zeroM,.int .i64 er,.int .i64 at']) (by simp[results,Tryz.results6,go_sem,a0,a1,a2,a3,a4,a5,hlD]) rfl ?_
  have hfs:Fr [w.heap.size] w1 ((((((w1.setCell ⟨w.heap.size,0,none⟩ (.string ⟨#[]⟩)).setCell ⟨w.heap.size,1,none⟩ (.slice none 0 0)).setCell ⟨w.heap.size,2,none⟩ (.slice none 0 0)).setCell ⟨w.heap.size,3,none⟩ (.slice none 0 0)).setCell ⟨w.heap.size,4,none⟩ (.slice none 0 0)).setCell ⟨w.heap.size,5,none⟩ (.slice none 0 0)):=by
   repeat' (first|with_reducible exact Fr.refl _ _|with_reducible refine Fr.setCell ?_ (Or.inl ?_) _|(simp;done))
  unfold ParsePost
  rw[HP.out]
  exact⟨((HB1.out.mono (fun k _ hk=>by cases hk)).trans hfs).drop (Nat.le_refl _),rfl⟩
def modZ:ModD:=⟨[],[],[],[],[],[]⟩
theorem parse_got {l:List UInt8} {M:ModD} {e o:Nat} (h:Px.parseP l=(some M,e,o)):e=0∧o=0∧(factsM true M).length≤900000:=by
 obtain⟨ts,er,a,hr⟩:∃ ts er a,Lx.lexL l=(ts,er,a):=⟨_,_,_,rfl⟩
 by_cases he:er=0
 ·subst he
  have hp:=parseP_ok hr
  obtain⟨_,_,hn,_,_⟩:=lex_facts hr
  cases hm:Px.module l.length 6001 ts with
  | ok M' r =>
   rw[hm] at hp
   rw[hp] at h
   simp only[Prod.mk.injEq,Option.some.injEq] at h
   obtain⟨rfl,h1,h2⟩:=h
   have:=facts_few true hm
   exact⟨h1.symm,h2.symm,by omega⟩
  | bad r =>
   rw[hm] at hp
   rw[hp] at h
   cases r <;> simp at h
 ·exfalso
  apply he
  unfold Px.parseP at h
  rw[hr] at h
  cases er with
  | zero=>rfl
  | succ n=>simp at h
theorem post_mod {l:List UInt8} {w w':World} {en:Ending} {om:Option ModD} {e o:Nat} (h:Px.parseP l=(om,e,o)) (hp:ParsePost w (om,e,o) en w') :
  (∃ p1 c1 p2 c2 p3 c3 p4 c4 p5 c5,en=.returned (.tuple #[.agg #[.string ⟨(om.getD modZ).name.toArray⟩,.slice p1 (om.getD modZ).uses.length c1,.slice p2 (om.getD modZ).datas.length c2,.slice p3 (om.getD modZ).traits.length c3,.slice p4 (om.getD modZ).impls.length c4,.slice p5 (om.getD modZ).funcs.length c5],.int .i64 e,.int .i64 o]) ∧
   ModIn w' (om.getD modZ) [.string ⟨(om.getD modZ).name.toArray⟩,.slice p1 (om.getD modZ).uses.length c1,.slice p2 (om.getD modZ).datas.length c2,.slice p3 (om.getD modZ).traits.length c3,.slice p4 (om.getD modZ).impls.length c4,.slice p5 (om.getD modZ).funcs.length c5])∧Fr [] w w':=by
 obtain⟨hf,hm⟩:=hp
 cases om with
 | none=>exact⟨⟨none,0,none,0,none,0,none,0,none,0,hm,_,_,_,_,_,rfl,.inl ⟨rfl,_,_,rfl⟩,.inl ⟨rfl,_,_,rfl⟩,.inl ⟨rfl,_,_,rfl⟩,.inl ⟨rfl,_,_,rfl⟩,.inl ⟨rfl,_,_,rfl⟩⟩,hf⟩
 | some M =>
  obtain⟨cs,rfl,hr⟩:=hm
  obtain⟨rfl,rfl,_⟩:=parse_got h
  have hM:=ModIn.of (ModG.of hr)
  obtain⟨p1,c1,p2,c2,p3,c3,p4,c4,p5,c5,rfl⟩:=hM.six
  exact⟨⟨_,_,_,_,_,_,_,_,_,_,rfl,hM⟩,hf⟩
theorem got_few {l:List UInt8} {om:Option ModD} {e o:Nat} (h:Px.parseP l=(om,e,o)):(factsM true (om.getD modZ)).length≤900000:=by
 cases om with
 | none=>decide
 | some M=>exact(parse_got h).2.2
set_option maxRecDepth 100000 in
set_option maxHeartbeats 3200000 in
theorem pmatch_any (s:ByteArray) (w:World) (hs:s.size≤140737488355328) (hL:Libs w) :
  Calls Tryz.prog 3 #[.string s] w fun e w'=>e=.returned (.bool true)∧Fr [] w w':=by
 obtain⟨om,pe,px,hp⟩:∃ om pe px,Px.parseP s.data.toList=(om,pe,px):=⟨_,_,_,rfl⟩
 have HP:=hid hp
 have HL:=hid hL
 obtain⟨A,hA⟩:∃ A,A=om.getD modZ:=⟨_,rfl⟩
 have hfl:(factsM true A).length≤900000:=by rw[hA];exact got_few hp
 have HA:=hid hA
 clear hp hL hA
 go_enter Tryz.func3,Tryz.ntmps3
 go_wp2_with fail
 refine(phead_any w HL.out).mono ?_
 rintro e w1 ⟨rfl,hf1⟩
 have HF1:=hid hf1
 clear hf1
 by_cases hsz:2000<s.size
 ·have hd:decide (2000<(s.size:Int))=true:=by simp;omega
  go_wp2_with fail
  first|go_ret|go_ret2
  exact⟨rfl,HF1.out⟩
 ·have hd:decide (2000<(s.size:Int))=false:=by simp;omega
  go_wp2_with fail
  refine(parse_spec s _ hs (HL.out.fr HF1.out) _ HP.out).mono ?_
  intro e w2 hpost
  obtain⟨⟨a1,ac1,a2,ac2,a3,ac3,a4,ac4,a5,ac5,rfl,hm⟩,hf2⟩:=post_mod HP.out hpost
  clear hpost
  rw[← HA.out] at hm ⊢
  have HM1:=hid hm
  have hff:Fr [] w2 (w2.alloc (.cells #[.string ⟨A.name.toArray⟩,.slice a1 A.uses.length ac1,.slice a2 A.datas.length ac2,.slice a3 A.traits.length ac3,.slice a4 A.impls.length ac4,.slice a5 A.funcs.length ac5] 29)):=(Fr.refl _ _).alloc _
  have HF2:=hid ((HF1.out.trans hf2).trans hff)
  have HBA:Hid (Blk (w2.alloc (.cells #[.string ⟨A.name.toArray⟩,.slice a1 A.uses.length ac1,.slice a2 A.datas.length ac2,.slice a3 A.traits.length ac3,.slice a4 A.impls.length ac4,.slice a5 A.funcs.length ac5] 29)) w2.heap.size 29 #[.string ⟨A.name.toArray⟩,.slice a1 A.uses.length ac1,.slice a2 A.datas.length ac2,.slice a3 A.traits.length ac3,.slice a4 A.impls.length ac4,.slice a5 A.funcs.length ac5]):=hid (Blk.new _ _ _)
  have HMA:=hid (HM1.out.keep hff)
  clear hm hf2 hff HM1
  go_wp2_with fail
  refine(rparse_any s _ hs).mono ?_
  intro e w3 hpost
  rw[HP.out] at hpost
  obtain⟨⟨b1,bc1,b2,bc2,b3,bc3,b4,bc4,b5,bc5,rfl,hm⟩,hf3⟩:=post_mod HP.out hpost
  clear hpost
  rw[← HA.out] at hm ⊢
  have HM3:=hid hm
  have HF3:=hid (HF2.out.trans hf3)
  have HBA3:=hid (HBA.out.keep hf3 (by simp))
  have HMA3:=hid (HMA.out.keep hf3)
  have hA3:=HBA3.out.lt
  have m0:=(HBA3.out.cell 0:w3.cell? ⟨w2.heap.size,0,none⟩=some (.string ⟨A.name.toArray⟩))
  have m1:=(HBA3.out.cell 1:w3.cell? ⟨w2.heap.size,1,none⟩=some (.slice a1 A.uses.length ac1))
  have m2:=(HBA3.out.cell 2:w3.cell? ⟨w2.heap.size,2,none⟩=some (.slice a2 A.datas.length ac2))
  have m3:=(HBA3.out.cell 3:w3.cell? ⟨w2.heap.size,3,none⟩=some (.slice a3 A.traits.length ac3))
  have m4:=(HBA3.out.cell 4:w3.cell? ⟨w2.heap.size,4,none⟩=some (.slice a4 A.impls.length ac4))
  have m5:=(HBA3.out.cell 5:w3.cell? ⟨w2.heap.size,5,none⟩=some (.slice a5 A.funcs.length ac5))
  clear hm hf3 HBA HMA HF2
  have e1:((pe:Int) == (pe:Int))=true:=by simp
  have e2:((px:Int) == (px:Int))=true:=by simp
  go_wp2_with fail
  have hff:Fr [] w3 (w3.alloc (.cells #[.string ⟨A.name.toArray⟩,.slice b1 A.uses.length bc1,.slice b2 A.datas.length bc2,.slice b3 A.traits.length bc3,.slice b4 A.impls.length bc4,.slice b5 A.funcs.length bc5] 29)):=(Fr.refl _ _).alloc _
  refine(same_facts A A true _ _ _ (by exact HMA3.out.keep hff) (by exact HM3.out.keep hff) rfl hfl).mono ?_
  rintro e w6 ⟨rfl,hf6⟩
  go_wp2_with fail
  first|go_ret|go_ret2
  exact⟨rfl,(HF3.out.trans hff).trans hf6⟩
end Go.Proofs.YtghohohagbbajaaGreatDoor
