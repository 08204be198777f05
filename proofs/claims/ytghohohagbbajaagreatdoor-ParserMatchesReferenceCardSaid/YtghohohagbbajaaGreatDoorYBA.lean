/- part of the proof -/
import Derived.Test.YtghohohagbbajaaGreatDoorYO
import Derived.Test.YtghohohagbbajaaGreatDoorYGF8
import Derived.Test.YtghohohagbbajaaGreatDoorYK
import Derived.Deep.RegionLaw
import Derived.Laws.EntriesVeiled
import Derived.Deep.DeepCutAuto
import Derived.Deep.RegionHeld3
set_option linter.unusedVariables false
set_option linter.unusedSimpArgs false
set_option linter.unusedSectionVars false
namespace Go.Proofs.YtghohohagbbajaaGreatDoor
open Go.RowKit Go.Lib
open Lx (Tk)
open Px (Txt TyE VarD DataD TraitD BoundD ImplD ArgD ExprD StmtD ArmD FuncD ModD)
theorem Blk.drew {w:World} {b T:Nat} {cs:Array Value} (h:Blk w b T cs):Blk w.drew b T cs:=h
theorem app_A {E s:Nat} {α:Type} {f:α→Q} {a:α} {l:List α} {R B g:Nat} {xs:List Value} {w4 wc w5:World} {v2:Value}
  (hg:g=w4.heap.size) (hB:B≤w4.heap.size) (hblk:Blk wc g E xs.toArray) (hl:xs.length=s) (hf:Fr [R] wc w5) (hR:R<B) (hrep:Rep w4 (fun k=>B≤k) (f a) xs) (h4:Fr [] w4 wc)
  (hv:okRow E s f wc.heap.size l w5 v2) (hgc:g<wc.heap.size) :
  ListAt w5 B E s 1 (f a) (.slice (some ⟨g,0,none⟩) 1 1)∧RowV w5 (fun k=>B≤k∧some k≠(Value.slice (some ⟨g,0,none⟩) 1 1).ownBlock) E s l.length (rowsQ f l) v2:=by
 subst hg
 refine⟨ListAt.one hB (hblk.keep hf (by simp;omega)) hl ?_,?_⟩
 ·exact(hrep.mono (N':=fun k=>B≤k∧k≠w4.heap.size) (fun k hk hlt=>⟨⟨hk,by omega⟩,h4.block k hlt (by simp)⟩)).mono (fun k hk hlt=>⟨hk,hf.block k hlt (by simp;have:=hk.1;omega)⟩)
 ·exact RowV.mono hv (fun k hk hlt=>⟨⟨by omega,by simp[Value.ownBlock];omega⟩,rfl⟩)
theorem app_B {E s:Nat} {α:Type} {f:α→Q} {a:α} {l:List α} {R B:Nat} {xs:List Value} {w4 wc w5:World} {v2:Value}
  (hB:B≤w4.heap.size) (hl:xs.length=s) (hf:Fr [R] wc w5) (hR:R<B) (hrep:Rep w4 (fun k=>B≤k) (f a) xs) (h4:Fr [] w4 wc)
  (hv:okRow E s f wc.heap.size l w5 v2) (E':Nat) (hE:E'=E:=by rfl) :
  ListAt (w5.alloc (.cells xs.toArray E')) B E s 1 (f a) (.slice (some ⟨w5.heap.size,0,none⟩) 1 1)∧RowV (w5.alloc (.cells xs.toArray E')) (fun k=>B≤k∧some k≠(Value.slice (some ⟨w5.heap.size,0,none⟩) 1 1).ownBlock) E s l.length (rowsQ f l) v2:=by
 subst hE
 have hz:=h4.size
 have hz2:=hf.size
 refine⟨ListAt.one (by omega) (Blk.new _ _ _) hl ?_,?_⟩
 ·exact(hrep.mono (N':=fun k=>B≤k∧k<w4.heap.size) (fun k hk hlt=>⟨⟨hk,hlt⟩,h4.block k hlt (by simp)⟩)).mono (w':=w5.alloc (.cells xs.toArray E')) (fun k hk hlt=>⟨⟨hk.1,by have:=hk.2;omega⟩,(Below.heap_alloc _ _ _ (by omega)).trans (hf.block k hlt (by simp;have:=hk.1;omega))⟩)
 ·exact RowV.mono hv (fun k hk hlt=>⟨⟨by omega,by simp[Value.ownBlock];omega⟩,Below.heap_alloc _ _ _ hlt⟩)
theorem arms_row {w:World} {B E s:Nat} {α:Type} {f:α→Q} {a:α} {l:List α} {v:Value} (h:ListAt w B E s (1+l.length) ((f a).app (rowsQ f l)) v):okRow E s f B (a :: l) w v:=by
 unfold okRow
 rw[List.length_cons,Nat.add_comm]
 exact h.row
theorem arms_after {c:Ctx} {ts:List Tk} {w4 wc w5:World} {b T A g m:Nat} {cs:Array Value} {y0 y1 y2 y3:Value} (hI:Inv c ts w4) (hD:Blk w4 b T cs) (hA:Blk w4 g A #[y0,y1,y2,y3]) (h4:Fr [] w4 wc) (hf:Fr [c.R] wc w5) (hg:c.R<g) (hb:b≠c.R) (hm:m≤g) :
  Fr [c.R,b] w4 w5∧Blk w5 b T cs∧w5.cell? ⟨g,0,none⟩=some y0∧w5.cell? ⟨g,1,none⟩=some y1∧w5.cell? ⟨g,2,none⟩=some y2∧w5.cell? ⟨g,3,none⟩=some y3∧w4.heap.size≤w5.heap.size:=by
 have hw:Fr [c.R] w4 w5:=(h4.mono (fun k _ hk=>by cases hk)).trans hf
 have hA5:=hA.keep hw (by simp;omega)
 exact⟨hw.wide,hD.keep hw (by simpa using hb),hA5.cell 0,hA5.cell 1,hA5.cell 2,hA5.cell 3,hw.size⟩
theorem row_len {c:Ctx} {ts ts':List Tk} {w:World} {α:Type} {read:Px.Rd α} {l:List α} (hI:Inv c ts w) (hs:Strict read) (h:Px.untilBrace read ts=.ok l ts'):l.length≤6000:=by
 have key:∀ (n:Nat) (acc:List α) (ts:List Tk),Px.untilT read n acc ts=.ok l ts'→l.length≤acc.length+ts.length:=by
  intro n
  induction n with
  | zero=>intro acc ts h;cases h
  | succ n ih =>
   intro acc ts h
   by_cases hc:([[125]]:List Txt).contains (Px.word ts)=true
   ·rw[untilT_no (r:=ts.tail) (by simp only[Px.accept];rw[if_pos hc])] at h
    cases h;omega
   ·have ha:Px.accept [[125]] ts=.ok false ts:=by simp only[Px.accept];rw[if_neg hc]
    cases hr:read ts with
    | ok a r =>
     rw[untilT_ok ha hr] at h
     have h1:=ih _ _ h
     have h2:=hs _ _ _ hr
     simp at h1;omega
    | bad r=>rw[untilT_bad ha hr] at h;cases h
 have:=key _ _ _ h
 have:=hI.few
 simp at *;omega
theorem blk_grown_A {w4 w5 w6:World} {B b T n cc:Nat} {cs:Array Value} (h:Blk w5 b T cs) (hg:w5.grownBy w6 (Value.slice (some ⟨w4.heap.size,0,none⟩) n cc).ownBlock) (hb:b<B) (hB:B≤w4.heap.size) (hz:w4.heap.size≤w5.heap.size):Blk w6 b T cs :=
 h.grown hg (fun k e=>by simp[Value.ownBlock] at e;omega)
theorem blk_grown_B {w4 w5 w6:World} {B b T n cc:Nat} {cs:Array Value} {o:Obj} (h:Blk w5 b T cs) (hg:(w5.alloc o).grownBy w6 (Value.slice (some ⟨w5.heap.size,0,none⟩) n cc).ownBlock) (hb:b<B) (hB:B≤w4.heap.size) (hz:w4.heap.size≤w5.heap.size):Blk w6 b T cs :=
 (h.alloc o).grown hg (fun k e=>by simp[Value.ownBlock] at e;omega)
theorem inv_grown_A {c:Ctx} {ts ts0:List Tk} {w w4 w5 w6:World} {n cc:Nat} (h:Inv c ts w5) (h0:Inv c ts0 w) (hg:w5.grownBy w6 (Value.slice (some ⟨w4.heap.size,0,none⟩) n cc).ownBlock) (hB:w.heap.size≤w4.heap.size) (_:w4.heap.size≤w5.heap.size):Inv c ts w6 :=
 h.grown h0 hg (fun k e=>by simp[Value.ownBlock] at e;omega)
theorem inv_grown_B {c:Ctx} {ts ts0:List Tk} {w w4 w5 w6:World} {n cc:Nat} {o:Obj} (h:Inv c ts w5) (h0:Inv c ts0 w) (hg:(w5.alloc o).grownBy w6 (Value.slice (some ⟨w5.heap.size,0,none⟩) n cc).ownBlock) (hB:w.heap.size≤w4.heap.size) (hz:w4.heap.size≤w5.heap.size):Inv c ts w6 :=
 (h.alloc o).grown h0 hg (fun k e=>by simp[Value.ownBlock] at e;omega)
theorem fr_grown_A {X:List Nat} {w w4 w5 w6:World} {n cc:Nat} (h:Fr X w w5) (hg:w5.grownBy w6 (Value.slice (some ⟨w4.heap.size,0,none⟩) n cc).ownBlock) (hB:w.heap.size≤w4.heap.size) (_:w4.heap.size≤w5.heap.size):Fr X w w6 :=
 h.grown hg (fun k e=>by simp[Value.ownBlock] at e;omega)
theorem fr_grown_B {X:List Nat} {w w4 w5 w6:World} {n cc:Nat} {o:Obj} (h:Fr X w w5) (hg:(w5.alloc o).grownBy w6 (Value.slice (some ⟨w5.heap.size,0,none⟩) n cc).ownBlock) (hB:w.heap.size≤w4.heap.size) (hz:w4.heap.size≤w5.heap.size):Fr X w w6 :=
 (h.alloc o).grown hg (fun k e=>by simp[Value.ownBlock] at e;omega)
set_option maxRecDepth 100000 in
set_option maxHeartbeats 1600000 in
theorem match_any (c:Ctx) (o:Nat) (ts:List Tk) (w:World) (h:Inv c ts w) (b:Nat) (hap:c.Apart b) (hD:Blk w b 52 #[.int .i64 6,.string ⟨#[]⟩,.slice none 0 0,.slice none 0 0,.int .i64 0,.string ⟨#[]⟩,.string ⟨#[]⟩,.string ⟨#[]⟩,.slice none 0 0,.int .i64 0,.slice none 0 0,.int .i64 0,.slice none 0 0,.slice none 0 0,.slice none 0 0,.slice none 0 0,.int .i64 o]) (n m:Nat) (S:Px.Rd StmtD) (hty:Reads c 77 n (okAgg typeQ) (Px.typeF c.size n)) (hst:Reads c 105 m (okAgg stmtQ) S) (hsh:Shr S) (hstr:Strict S) (hm:ts.length<n) (hm2:ts.length<m) (hra:Reads c 80 m (okAgg armQ) (Px.arm c.size S)) :
  Calls Tryz.prog 44 #[.pointer (some ⟨c.R,0,none⟩),.pointer (some ⟨b,0,none⟩)] w (RPB c b 52 w (okCells stmtQ) (Px.matchS c.size S o ts)):=by
 have HTY:Hid (Reads c 77 n (okAgg typeQ) (Px.typeF c.size n)):=hid hty
 have HST:Hid (Reads c 105 m (okAgg stmtQ) S):=hid hst
 have HSH:=hid hsh
 have HSTR:Hid (Strict S):=hid hstr
 clear hty hst hsh hstr
 have hmf:=make_func
 have HRA:Hid (Reads c 80 m (okAgg armQ) (Px.arm c.size S)):=hid hra
 clear hra
 obtain⟨i0,hi,iz0,iz1,iz2⟩:=info_parts info_arm
 have HINF:=hid hi
 clear hi
 have H:=hid h
 have HD0:=hid hD
 have HR0:=H.out.lt.1
 have hb0:b≠c.R:=hap.1
 have hb1:b<w.heap.size:=hD.lt
 clear h hD
 go_enter Tryz.func44,Tryz.ntmps44
 go_wp2_with fail
 refine(name_any c ts _ (by exact H.out.frp hap frk)).mono ?_
 rintro e w1 hp
 rcases hp.cases with ⟨x1,ts1,v1,hq1,hf,hi,rfl,hv⟩|⟨ts1,hq1,hf,hi,rfl⟩
 ·clear hp
  obtain rfl:=hv
  have hT:Fr [c.R,b] w w1:=Fr.trans frk hf.wide
  have HD1:=hid (HD0.out.k hf)
  have HI1:=hid hi
  have HF1:=hid ((Fr.refl [c.R,b] w).trans hT)
  have hz1:=hf.size;try simp at hz1
  have hl1:ts1.length<ts.length:=Strict.name _ _ _ hq1.out
  clear hT hf hi
  have hlD:=HD1.out.lt
  obtain⟨d1,f1⟩:=HD1.out.df 1 (v:=.string ⟨#[]⟩) rfl
  go_wp2_with fail
  clear hlD d1 f1
  refine(expect_any c ts1 [[123]] _ _ 1 (by exact HI1.out.frp hap frk) rfl (by exact Blk.new_at (by simp)) rfl (by decide)).mono ?_
  rintro e w2 hp
  rcases hp.cases with ⟨x2,ts2,v2,hq2,hf,hi,rfl,hv⟩|⟨ts2,hq2,hf,hi,rfl⟩
  ·clear hp
   obtain rfl:=hv
   have hT:Fr [c.R,b] w1 w2:=Fr.trans frk hf.wide
   have HD2:Hid (Blk w2 (b) 52 #[.int .i64 6,.string ⟨x1.toArray⟩,.slice none 0 0,.slice none 0 0,.int .i64 0,.string ⟨#[]⟩,.string ⟨#[]⟩,.string ⟨#[]⟩,.slice none 0 0,.int .i64 0,.slice none 0 0,.int .i64 0,.slice none 0 0,.slice none 0 0,.slice none 0 0,.slice none 0 0,.int .i64 o]):=hid ((Blk.alloc (HD1.out.set 1 (.string ⟨x1.toArray⟩)) _).k hf)
   have HI2:=hid hi
   have HF2:=hid (HF1.out.trans hT)
   have hz2:=hf.size;try simp at hz2
   have hl2:ts2.length≤ts1.length:=(Shr.expect _).ok hq2.out
   clear hT hf hi
   have hlD:=HD2.out.lt
   go_wp2_with fail
   clear hlD
   refine(arm_any c ts2 _ (by exact HI2.out.frp hap frk) n m S HTY.out HST.out HSH.out HSTR.out (by omega) (by omega)).mono ?_
   rintro e w3 hp
   rcases hp.cases with ⟨x3,ts3,v3,hq3,hf,hi,rfl,hv⟩|⟨ts3,hq3,hf,hi,rfl⟩
   ·clear hp
    obtain⟨cs,rfl,hrep⟩:=hv
    obtain⟨s3_0,p3_1,n3_1,c3_1,p3_2,n3_2,c3_2,i3_3,rfl⟩:=hrep.c_armQ
    have hV3:Rep w3 (fun k=>w.heap.size≤k) _ _:=hrep.mono (fun k hk _=>⟨by (try simp at hk);omega,rfl⟩)
    have hT:Fr [c.R,b] w2 w3:=Fr.trans frk hf.wide
    have HD3:=hid (HD2.out.k hf)
    have HI3:=hid hi
    have HF3:=hid (HF2.out.trans hT)
    have hz3:=hf.size;try simp at hz3
    have HV3:=hid hV3
    have hl3:ts3.length≤ts2.length:=(shr_arm _ HSH.out).ok hq3.out
    clear hT hf hi hV3 hrep
    go_wp2_with fail
    obtain⟨w4,hw4⟩:∃ w4,w4=w3.alloc (.cells #[.string s3_0,.slice p3_1 n3_1 c3_1,.slice p3_2 n3_2 c3_2,.int .i64 i3_3] 138):=⟨_,rfl⟩
    have HI4:Hid (Inv c ts3 w4):=hid (by rw[hw4];exact HI3.out.alloc _)
    have HF4:Hid (Fr [c.R,b] w w4):=hid (by rw[hw4];exact HF3.out.alloc _)
    have HD4:Hid (Blk w4 b 52 #[.int .i64 6,.string ⟨x1.toArray⟩,.slice none 0 0,.slice none 0 0,.int .i64 0,.string ⟨#[]⟩,.string ⟨#[]⟩,.string ⟨#[]⟩,.slice none 0 0,.int .i64 0,.slice none 0 0,.int .i64 0,.slice none 0 0,.slice none 0 0,.slice none 0 0,.slice none 0 0,.int .i64 o]):=hid (by rw[hw4];exact HD3.out.alloc _)
    have HA4:Hid (Blk w4 w3.heap.size 138 #[.string s3_0,.slice p3_1 n3_1 c3_1,.slice p3_2 n3_2 c3_2,.int .i64 i3_3]):=hid (by rw[hw4];exact Blk.new _ _ _)
    have HV4:Hid (Rep w4 (fun k=>w.heap.size≤k) (armQ x3) [.string s3_0,.slice p3_1 n3_1 c3_1,.slice p3_2 n3_2 c3_2,.int .i64 i3_3]):=hid (by rw[hw4];exact rep_own HV3.out (X:=[]) ((Fr.refl _ _).alloc _) (by simp) (by omega))
    have hz4:w4.heap.size=w3.heap.size+1:=by rw[hw4];simp
    have hz4a:w.heap.size≤w4.heap.size:=by omega
    have hz4b:w3.heap.size<w4.heap.size:=by omega
    have HZ4:=hid hz4
    have a0:=HA4.out.at 0 (v:=.string s3_0) rfl
    have a1:=HA4.out.at 1 (v:=.slice p3_1 n3_1 c3_1) rfl
    have a2:=HA4.out.at 2 (v:=.slice p3_2 n3_2 c3_2) rfl
    have a3:=HA4.out.at 3 (v:=.int .i64 i3_3) rfl
    have HBAD:Hid (∀ ts5 w5,Px.untilBrace (Px.arm c.size S) ts3=.bad ts5→Fr [c.R,b] w4 w5→Inv c ts5 w5→RPB c b 52 w (okCells stmtQ) (Px.matchS c.size S o ts) (.panicked [failE c ts5]) w5):=hid (fun ts5 w5 hb hf hi=>RPB.bad (by simp only[Px.matchS,bind,Px.Rd.bind,offset_res,if_true,if_false,Bool.false_eq_true,hq1.out,hq2.out,hq3.out,hb]) (HF4.out.trans hf) hi)
    skip
    rw[← hw4]
    clear hw4 hz4
    go_region_law (first|(refine step_append_src _ (by rfl) _ _ 50 (by rfl) w.heap.size 138 i0 _ 4 72 Tryz.underlying50 HINF.out iz0 iz1 iz2 rfl (by decide) (.slice (some ⟨w4.heap.size,0,none⟩) 1 1) (.slice p5 n5 k5) 1 l.length (armQ x3) (rowsQ armQ l) (by rfl) (by rfl) ((app_A (g:=w4.heap.size) (w4:=w4) rfl hz4a (by repeat' (first|with_reducible refine Blk.new_at ?_|with_reducible refine Blk.alloc ?_ _|with_reducible refine Blk.drew ?_|(simp;done)|(simp;omega))) rfl hf5 HR0 HV4.out (by repeat' (first|with_reducible exact Fr.refl _ _|with_reducible refine Fr.alloc ?_ _|with_reducible refine Fr.drew ?_|with_reducible refine Fr.drewN ?_ _)) hv5 (by simp))).1 (by decide) ((app_A (g:=w4.heap.size) (w4:=w4) rfl hz4a (by repeat' (first|with_reducible refine Blk.new_at ?_|with_reducible refine Blk.alloc ?_ _|with_reducible refine Blk.drew ?_|(simp;done)|(simp;omega))) rfl hf5 HR0 HV4.out (by repeat' (first|with_reducible exact Fr.refl _ _|with_reducible refine Fr.alloc ?_ _|with_reducible refine Fr.drew ?_|with_reducible refine Fr.drewN ?_ _)) hv5 (by simp))).2 (by have:=HL5.out;omega) (by decide) (by first|omega|(simp;omega)) ?_;intro p6 c6 w6 hL6 hg6;have hD6:=hid (blk_grown_A HD5.out hg6 hb1 hz4a hzz);have hd14:w6.cell? ⟨b,14,none⟩=some (.slice none 0 0):=hD6.out.cell 14;have hf14:w6.frozen? ⟨b,14,none⟩=false:=hD6.out.frozen 14;have HI6:=hid (inv_grown_A hi5 H.out hg6 hz4a hzz);have HF6:=hid (fr_grown_A (HF4.out.trans hw5) hg6 hz4a hzz);have HL6:=hid hL6;clear hL6 hg6)|(refine step_append_src _ (by rfl) _ _ 50 (by rfl) w.heap.size 138 i0 _ 4 72 Tryz.underlying50 HINF.out iz0 iz1 iz2 rfl (by decide) (.slice (some ⟨w5.heap.size,0,none⟩) 1 1) (.slice p5 n5 k5) 1 l.length (armQ x3) (rowsQ armQ l) (by rfl) (by rfl) ((app_B (w4:=w4) hz4a (xs:=[.string s3_0,.slice p3_1 n3_1 c3_1,.slice p3_2 n3_2 c3_2,.int .i64 i3_3]) rfl hf5 HR0 HV4.out (by repeat' (first|with_reducible exact Fr.refl _ _|with_reducible refine Fr.alloc ?_ _|with_reducible refine Fr.drew ?_|with_reducible refine Fr.drewN ?_ _)) hv5 138)).1 (by decide) ((app_B (w4:=w4) hz4a (xs:=[.string s3_0,.slice p3_1 n3_1 c3_1,.slice p3_2 n3_2 c3_2,.int .i64 i3_3]) rfl hf5 HR0 HV4.out (by repeat' (first|with_reducible exact Fr.refl _ _|with_reducible refine Fr.alloc ?_ _|with_reducible refine Fr.drew ?_|with_reducible refine Fr.drewN ?_ _)) hv5 138)).2 (by have:=HL5.out;omega) (by decide) (by first|omega|(simp;omega)) ?_;intro p6 c6 w6 hL6 hg6;have hD6:=hid (blk_grown_B HD5.out hg6 hb1 hz4a hzz);have hd14:w6.cell? ⟨b,14,none⟩=some (.slice none 0 0):=hD6.out.cell 14;have hf14:w6.frozen? ⟨b,14,none⟩=false:=hD6.out.frozen 14;have HI6:=hid (inv_grown_B hi5 H.out hg6 hz4a hzz);have HF6:=hid (fr_grown_B (HF4.out.trans hw5) hg6 hz4a hzz);have HL6:=hid hL6;clear hL6 hg6)|(go_simp;go_at_call 81;refine Calls.both (until_arm c _ m (Px.arm c.size S) enters_arm HRA.out (strict_arm _ HSH.out) ts3 _ (by exact HI4.out.fr (X:=[]) H.out (by repeat' (first|with_reducible exact Fr.refl _ _|with_reducible refine Fr.alloc ?_ _|with_reducible refine Fr.drew ?_|with_reducible refine Fr.drewN ?_ _)) (by simp)) (by omega)) (fun ts5 w5 h1 h2 h3=>And.intro rfl (HBAD.out ts5 w5 h1 (Fr.trans (by repeat' (first|with_reducible exact Fr.refl _ _|with_reducible refine Fr.alloc ?_ _|with_reducible refine Fr.drew ?_|with_reducible refine Fr.drewN ?_ _)) h2.wide) h3)) ?_;intro l ts5 v5 w5 hq5 hf5 hi5 hv5;obtain⟨p5,n5,k5,rfl⟩:=row_shp hv5;have hx5:=arms_after HI4.out HD4.out HA4.out (by repeat' (first|with_reducible exact Fr.refl _ _|with_reducible refine Fr.alloc ?_ _|with_reducible refine Fr.drew ?_|with_reducible refine Fr.drewN ?_ _)) hf5 (by omega) hb0 (by omega);obtain⟨hw5,hd5,e0,e1,e2,e3,hzz⟩:=hx5;have HD5:=hid hd5;have HQ5:=hid hq5.out;have hl5:=row_len HI4.out (strict_arm _ HSH.out) hq5.out;have HL5:=hid hl5;clear hd5 hq5 hl5))
    all_goals
     have hfs:Fr [b] w6 (w6.setCell ⟨b,14,none⟩ (.slice p6 (1+l.length) c6)):=(Fr.refl _ _).setCell (.inl (by simp)) _
     have HR6:=hid (row_own (b:=w.heap.size) (arms_row HL6.out) (Nat.le_refl _) hfs (by simp;omega))
     have HF7:=hid (HF6.out.trans (hfs.mono (Y:=[c.R,b]) (fun k _ hk=>by simp at hk;simp[hk])))
     have HI7:=hid (HI6.out.frp hap hfs)
     have HD7:=hid (Blk.set hD6.out 14 (.slice p6 (1+l.length) c6))
     clear hfs
     try go_wp2_with fail
     first|go_end0|refine bodyPost_ret (results_none rfl _ _ _) rfl ?_
     exact RPB.ok (cs:=[.int .i64 6,.string ⟨x1.toArray⟩,.slice none 0 0,.slice none 0 0,.int .i64 0,.string ⟨#[]⟩,.string ⟨#[]⟩,.string ⟨#[]⟩,.slice none 0 0,.int .i64 0,.slice none 0 0,.int .i64 0,.slice none 0 0,.slice none 0 0,.slice p6 (1+l.length) c6,.slice none 0 0,.int .i64 o]) (a:=.mk 6 x1 [] [] Px.expr0 [] [] (x3 :: l) [] o) (by simp only[Px.matchS,bind,Px.Rd.bind,offset_res,if_true,if_false,Bool.false_eq_true,hq1.out,hq2.out,hq3.out,HQ5.out] <;> rfl) HF7.out HI7.out HD7.out (by unfold okCells;rw[stmtQ_mk];exact rep_int.2 ⟨_,rfl,rep_str.2 ⟨_,rfl,rep_sl.2 ⟨_,_,rfl,RowV.nil _ _ _ _,rep_sl.2 ⟨_,_,rfl,RowV.nil _ _ _ _,Rep.app (cs:=[.int .i64 0,.string ⟨#[]⟩,.string ⟨#[]⟩,.string ⟨#[]⟩,.slice none 0 0,.int .i64 0,.slice none 0 0,.int .i64 0]) expr0_rep (rep_sl.2 ⟨_,_,rfl,RowV.nil _ _ _ _,rep_sl.2 ⟨_,_,rfl,RowV.nil _ _ _ _,rep_sl.2 ⟨_,_,rfl,HR6.out,rep_sl.2 ⟨_,_,rfl,RowV.nil _ _ _ _,rep_int.2 ⟨_,rfl,rep_nil.2 rfl⟩⟩⟩⟩⟩)⟩⟩⟩⟩)
   ·go_wp2_with fail
    exact⟨rfl,RPB.bad (by simp only[Px.matchS,bind,Px.Rd.bind,offset_res,if_true,if_false,Bool.false_eq_true,hq1.out,hq2.out,hq3.out]) (HF2.out.trans (Fr.trans frk hf.wide)) hi⟩
  ·go_wp2_with fail
   exact⟨rfl,RPB.bad (by simp only[Px.matchS,bind,Px.Rd.bind,offset_res,if_true,if_false,Bool.false_eq_true,hq1.out,hq2.out]) (HF1.out.trans (Fr.trans frk hf.wide)) hi⟩
 ·go_wp2_with fail
  exact⟨rfl,RPB.bad (by simp only[Px.matchS,bind,Px.Rd.bind,offset_res,if_true,if_false,Bool.false_eq_true,hq1.out]) ((Fr.refl [c.R,b] w).trans (Fr.trans frk hf.wide)) hi⟩
theorem stmt_size:(Tryz.prog.info? 52).map (·.size)=some 17:=by kernel_rfl
theorem fr_setRow (w:World) (g:Nat) (cs:Array Value):Fr [g] w (w.setRow g cs):=⟨rfl,rfl,rfl,by simp,fun k _ hk=>setRow_other w g k cs (by simpa using hk)⟩
theorem zero_stmt (w:World):(zeroValue 114).run Tryz.prog w=.ok (formV 0) w:=by unfold formV;rw[if_pos rfl];kernel_rfl
theorem forms_look (c:Ctx) (ts:List Tk) (w:World) (h:Inv c ts w) {t:Txt} (ht:t.length≤20000) :
  (Instr.lookup 75 (.map (some c.Sb)) (.string ⟨t.toArray⟩) true).run Tryz.prog w=.ok (.tuple #[formV (kindAt t),.bool (!(Px.formOf t == 2))]) w:=by
 obtain⟨k,D,hown,hat⟩:=h.forms
 obtain⟨v,ps,hrun,hv⟩:=hown.look_ok keyed9 Tryz.underlying75 (zero_stmt _) (formElem_mk 0 (by decide)) (kl:=.string t) (WideMaps.keyOf_string_mk Tryz.underlying9 (size_le t ht))
 rw[show ((0:Nat):Int)=0 from rfl,(hat t).1] at hv
 obtain⟨j,hj,rfl⟩:=formElem_inv hv
 rw[hrun,(hat t).2]
 rw[show j=kindAt t by omega]
theorem stmt_cell {c:Ctx} {ts:List Tk} {w:World} (h:Inv c ts w):w.cell? ⟨c.R,3,none⟩=some (.map (some c.Sb)):=by
 obtain⟨tv,hb,_⟩:=h.reader
 exact hb.cell 3
theorem lookup_mem {t:Txt} {v:Nat} : ∀ {l:List (Txt × Nat)},l.lookup t=some v→v∈l.map (·.2)
 | [],h=>by cases h
 | (a,b) :: l,h=>by
  rw[List.lookup_cons] at h
  split at h
  ·cases h;simp
  ·exact List.mem_cons_of_mem _ (lookup_mem h)
theorem formOf_kinds (t:Txt):Px.formOf t=2∨Px.formOf t∈([1,3,4,5,6,7,8,9,10,11,12,13]:List Nat):=by
 unfold Px.formOf
 cases h:Px.forms.lookup t with
 | none=>exact .inl rfl
 | some v=>exact .inr (lookup_mem h)
theorem word_len {c:Ctx} {ts:List Tk} {w:World} (h:Inv c ts w):(Px.word ts).length≤20000:=by
 cases ts with
 | nil=>simp[Px.word]
 | cons t r=>exact h.words t (by simp)
set_option maxRecDepth 100000 in
set_option maxHeartbeats 1600000 in
theorem stmt_set (c:Ctx) (n m:Nat) (ts:List Tk) (w:World) (h:Inv c ts w) (hty:Reads c 77 n (okAgg typeQ) (Px.typeF c.size n)) (hm:ts.length<n) (hset:Px.formOf (Px.word ts)=2) :
  Calls Tryz.prog 105 #[.pointer (some ⟨c.R,0,none⟩)] w (RP c w (okAgg stmtQ) (Px.stmtF c.size n (m+1) ts)):=by
 have HTY:Hid (Reads c 77 n (okAgg typeQ) (Px.typeF c.size n)):=hid hty
 clear hty
 have HFO:=hid hset
 have HFB:Hid ((!(Px.formOf (Px.word ts) == 2))=false):=hid (by rw[hset];rfl)
 have HKA:Hid (kindAt (Px.word ts)=0):=hid (by unfold kindAt;rw[if_pos hset])
 have HW:=hid (word_len h)
 clear hset
 have H:=hid h
 have HR0:=H.out.lt.1
 clear h
 go_enter Tryz.func105,Tryz.ntmps105
 go_wp2_with fail
 refine(offset_any c ts _ (by exact H.out.fr (X:=[]) H.out (by repeat' (first|with_reducible exact Fr.refl _ _|with_reducible refine Fr.setCell ?_ (Or.inl ?_) _|with_reducible refine Fr.alloc ?_ _|with_reducible refine Fr.drewN ?_ _|with_reducible refine Fr.drew ?_|(simp;done))) (by simp))).mono ?_
 rintro e w' ⟨rfl,rfl⟩
 go_upto_region 2 with fail
 obtain⟨w0,hw0⟩:∃ w0,w0=(w.alloc (.cells #[.int .i64 0,.string ⟨#[]⟩,.slice none 0 0,.slice none 0 0,.int .i64 0,.string ⟨#[]⟩,.string ⟨#[]⟩,.string ⟨#[]⟩,.slice none 0 0,.int .i64 0,.slice none 0 0,.int .i64 0,.slice none 0 0,.slice none 0 0,.slice none 0 0,.slice none 0 0,.int .i64 0] 52)).alloc (.cells #[.int .i64 0,.string ⟨#[]⟩,.slice none 0 0,.slice none 0 0,.int .i64 0,.string ⟨#[]⟩,.string ⟨#[]⟩,.string ⟨#[]⟩,.slice none 0 0,.int .i64 0,.slice none 0 0,.int .i64 0,.slice none 0 0,.slice none 0 0,.slice none 0 0,.slice none 0 0,.int .i64 (offOf c.size ts)] 52):=⟨_,rfl⟩
 have HI0:Hid (Inv c ts w0):=hid (by rw[hw0];exact(H.out.alloc _).alloc _)
 have HF0:Hid (Fr [c.R] w w0):=hid (by rw[hw0];exact((Fr.refl _ _).alloc _).alloc _)
 have HB0:Hid (Blk w0 (w.heap.size) 52 #[.int .i64 0,.string ⟨#[]⟩,.slice none 0 0,.slice none 0 0,.int .i64 0,.string ⟨#[]⟩,.string ⟨#[]⟩,.string ⟨#[]⟩,.slice none 0 0,.int .i64 0,.slice none 0 0,.int .i64 0,.slice none 0 0,.slice none 0 0,.slice none 0 0,.slice none 0 0,.int .i64 0]):=hid (by rw[hw0];exact(Blk.new _ _ _).alloc _)
 have HD0:Hid (Blk w0 (w.heap.size+1) 52 #[.int .i64 0,.string ⟨#[]⟩,.slice none 0 0,.slice none 0 0,.int .i64 0,.string ⟨#[]⟩,.string ⟨#[]⟩,.string ⟨#[]⟩,.slice none 0 0,.int .i64 0,.slice none 0 0,.int .i64 0,.slice none 0 0,.slice none 0 0,.slice none 0 0,.slice none 0 0,.int .i64 (offOf c.size ts)]):=hid (by rw[hw0];exact Blk.new_at (by simp))
 have hz0:w0.heap.size=w.heap.size+2:=by rw[hw0];simp
 have hz0a:w0.heap.size≤w.heap.size+2:=by omega
 have hz0b:w.heap.size+2≤w0.heap.size:=by omega
 have HZ0:=hid hz0
 rw[← hw0]
 have hR3:=stmt_cell HI0.out
 have hRlt:=HI0.out.lt.1
 have hl1:=forms_look c ts w0.drew HI0.out.drew HW.out
 have hl2:=forms_look c ts (w0.alloc (.cells #[.int .i64 0,.nilFunc] 114)).drew (HI0.out.alloc _).drew HW.out
 simp only[HFB.out,HKA.out] at hl1 hl2
 have hwd1:=word_any c ts w0.drew HI0.out.drew
 have hwd2:=word_any c ts (w0.alloc (.cells #[.int .i64 0,.nilFunc] 114)).drew (HI0.out.alloc _).drew
 have HWD1:=hid hwd1
 have HWD2:=hid hwd2
 clear hw0 hz0 hwd1 hwd2
 unfold formV at hl1 hl2
 go_cut [4,5] (fun s4 s5 wx=>s4=.pointer (some ⟨w0.heap.size,0,none⟩)∧s5=.bool false∧wx=(w0.alloc (.cells #[.int .i64 0,.nilFunc] 114)).drew)
 case first =>
  go_region_held3 (fun w'=>w'.cell? ⟨c.R,3,none⟩=some (.map (some c.Sb))) (go_keep) (first|(go_at_call 85;refine HWD1.out.mono ?_;rintro e w' ⟨rfl,rfl⟩)|(go_at_call 85;refine HWD2.out.mono ?_;rintro e w' ⟨rfl,rfl⟩))
  all_goals (try go_wp2_with fail)
  all_goals (go_meet;exact⟨rfl,rfl,rfl⟩)
 case rest =>
  obtain⟨rfl,rfl,rfl⟩:=hcut
  clear hl1 hl2 hR3
  go_wp2_with fail
  refine(set_any c (offOf c.size ts) ts _ (by exact HI0.out.fr (X:=[w.heap.size+1]) H.out (by repeat' (first|with_reducible exact Fr.refl _ _|with_reducible refine Fr.setCell ?_ (Or.inl ?_) _|with_reducible refine Fr.alloc ?_ _|with_reducible refine Fr.drewN ?_ _|with_reducible refine Fr.drew ?_|(simp;done))) (by simp)) (w.heap.size+1) (H.out.apart (by simp)) (by exact Blk.drew (Blk.alloc HD0.out _)) n HTY.out (by omega)).mono ?_
  rintro e w1 hp
  rcases hp.cases with ⟨x1,ts1,cs1,hq1,hf,hi,rfl,hDn,hrep⟩|⟨ts1,hq1,hf,hi,rfl⟩
  ·clear hp
   unfold okCells at hrep
   obtain⟨i1_0,s1_1,p1_2,n1_2,c1_2,p1_3,n1_3,c1_3,i1_4,s1_5,s1_6,s1_7,p1_8,n1_8,c1_8,i1_9,p1_10,n1_10,c1_10,i1_11,p1_12,n1_12,c1_12,p1_13,n1_13,c1_13,p1_14,n1_14,c1_14,p1_15,n1_15,c1_15,i1_16,rfl⟩:=hrep.c_stmtQ
   have hT:Fr [c.R,w.heap.size+1] w0 w1:=Fr.trans (by repeat' (first|with_reducible exact Fr.refl _ _|with_reducible refine Fr.setCell ?_ (Or.inl ?_) _|with_reducible refine Fr.alloc ?_ _|with_reducible refine Fr.drewN ?_ _|with_reducible refine Fr.drew ?_|(simp;done))) hf
   have HD1:Hid (Blk w1 (w.heap.size+1) 52 #[.int .i64 i1_0,.string s1_1,.slice p1_2 n1_2 c1_2,.slice p1_3 n1_3 c1_3,.int .i64 i1_4,.string s1_5,.string s1_6,.string s1_7,.slice p1_8 n1_8 c1_8,.int .i64 i1_9,.slice p1_10 n1_10 c1_10,.int .i64 i1_11,.slice p1_12 n1_12 c1_12,.slice p1_13 n1_13 c1_13,.slice p1_14 n1_14 c1_14,.slice p1_15 n1_15 c1_15,.int .i64 i1_16]):=hid hDn
   have HB1:=hid (HB0.out.k hT)
   have hV1:Rep w1 (fun k=>w.heap.size+3≤k) _ _:=hrep.mono (fun k hk _=>⟨by (try simp at hk);omega,rfl⟩)
   have HV1:=hid hV1
   have HI1:=hid hi
   have HF1:=hid (HF0.out.j hT)
   have hz1:=hf.size;try simp at hz1
   clear hT hf hi hrep hV1 hDn
   go_wp2_with (first|(refine wpList_load_row rfl 52 _ rfl (w.heap.size+1) rfl 52 #[.int .i64 i1_0,.string s1_1,.slice p1_2 n1_2 c1_2,.slice p1_3 n1_3 c1_3,.int .i64 i1_4,.string s1_5,.string s1_6,.string s1_7,.slice p1_8 n1_8 c1_8,.int .i64 i1_9,.slice p1_10 n1_10 c1_10,.int .i64 i1_11,.slice p1_12 n1_12 c1_12,.slice p1_13 n1_13 c1_13,.slice p1_14 n1_14 c1_14,.slice p1_15 n1_15 c1_15,.int .i64 i1_16] (0,0) _ HD1.out Tryz.underlying52 rfl stmt_size ?_)|(refine wpList_store_row rfl 52 _ _ rfl w.heap.size #[.int .i64 i1_0,.string s1_1,.slice p1_2 n1_2 c1_2,.slice p1_3 n1_3 c1_3,.int .i64 i1_4,.string s1_5,.string s1_6,.string s1_7,.slice p1_8 n1_8 c1_8,.int .i64 i1_9,.slice p1_10 n1_10 c1_10,.int .i64 i1_11,.slice p1_12 n1_12 c1_12,.slice p1_13 n1_13 c1_13,.slice p1_14 n1_14 c1_14,.slice p1_15 n1_15 c1_15,.int .i64 i1_16] rfl rfl 52 _ HB1.out stmt_size rfl (by simp[Value.oneCell']) ?_))
   have hfs:Fr [w.heap.size] w1 (w1.setRow w.heap.size #[.int .i64 i1_0,.string s1_1,.slice p1_2 n1_2 c1_2,.slice p1_3 n1_3 c1_3,.int .i64 i1_4,.string s1_5,.string s1_6,.string s1_7,.slice p1_8 n1_8 c1_8,.int .i64 i1_9,.slice p1_10 n1_10 c1_10,.int .i64 i1_11,.slice p1_12 n1_12 c1_12,.slice p1_13 n1_13 c1_13,.slice p1_14 n1_14 c1_14,.slice p1_15 n1_15 c1_15,.int .i64 i1_16]):=fr_setRow _ _ _
   have hbs:=setRow_heap w1 w.heap.size _ #[.int .i64 i1_0,.string s1_1,.slice p1_2 n1_2 c1_2,.slice p1_3 n1_3 c1_3,.int .i64 i1_4,.string s1_5,.string s1_6,.string s1_7,.slice p1_8 n1_8 c1_8,.int .i64 i1_9,.slice p1_10 n1_10 c1_10,.int .i64 i1_11,.slice p1_12 n1_12 c1_12,.slice p1_13 n1_13 c1_13,.slice p1_14 n1_14 c1_14,.slice p1_15 n1_15 c1_15,.int .i64 i1_16] 52 (0,0) HB1.out
   refine bodyPost_ret (v:=.agg #[.int .i64 i1_0,.string s1_1,.slice p1_2 n1_2 c1_2,.slice p1_3 n1_3 c1_3,.int .i64 i1_4,.string s1_5,.string s1_6,.string s1_7,.slice p1_8 n1_8 c1_8,.int .i64 i1_9,.slice p1_10 n1_10 c1_10,.int .i64 i1_11,.slice p1_12 n1_12 c1_12,.slice p1_13 n1_13 c1_13,.slice p1_14 n1_14 c1_14,.slice p1_15 n1_15 c1_15,.int .i64 i1_16]) (results_cell_row (p:=2) rfl _ _ w.heap.size 52 #[.int .i64 i1_0,.string s1_1,.slice p1_2 n1_2 c1_2,.slice p1_3 n1_3 c1_3,.int .i64 i1_4,.string s1_5,.string s1_6,.string s1_7,.slice p1_8 n1_8 c1_8,.int .i64 i1_9,.slice p1_10 n1_10 c1_10,.int .i64 i1_11,.slice p1_12 n1_12 c1_12,.slice p1_13 n1_13 c1_13,.slice p1_14 n1_14 c1_14,.slice p1_15 n1_15 c1_15,.int .i64 i1_16] (0,0) _ rfl hbs Tryz.underlying52 rfl stmt_size) rfl ?_
   exact RP.ok (by simp only[Px.stmtF,bind,Px.Rd.bind,offset_res,if_true,if_false,Bool.false_eq_true,Px.wordR,if_pos HFO.out,hq1.out] <;> rfl) (HF1.out.join (X:=[w.heap.size]) (hfs.mono (fun k _ hk=>by simp at hk;simp[hk])) (by simp)) (HI1.out.fr (X:=[w.heap.size]) H.out hfs (by simp)) ⟨_,rfl,rep_own (b:=w.heap.size) HV1.out (X:=[w.heap.size]) hfs (by simp) (by omega)⟩
  ·go_wp2_with fail
   exact⟨rfl,RP.bad (by simp only[Px.stmtF,bind,Px.Rd.bind,offset_res,if_true,if_false,Bool.false_eq_true,Px.wordR,if_pos HFO.out,hq1.out]) (HF0.out.join (Fr.trans (by repeat' (first|with_reducible exact Fr.refl _ _|with_reducible refine Fr.setCell ?_ (Or.inl ?_) _|with_reducible refine Fr.alloc ?_ _|with_reducible refine Fr.drewN ?_ _|with_reducible refine Fr.drew ?_|(simp;done))) hf) (by simp)) hi⟩
theorem take_ts (c:Ctx) (ts:List Tk) (w:World) (h:Inv c ts w) (hne:ts≠[]):Calls Tryz.prog 88 #[.pointer (some ⟨c.R,0,none⟩)] w fun e w'=>∃ v,e=.returned v∧Fr [c.R] w w'∧Inv c ts.tail w':=by
 cases ts with
 | nil=>exact absurd rfl hne
 | cons t r=>exact(take_any c t r w h).mono fun e w' hh=>⟨_,hh.1,hh.2.1,hh.2.2⟩
theorem enters_form (K:Nat) (hK:K∈([1,3,4,5,6,7,8,9,10,11,12,13]:List Nat)):Enters (fnNum K):=by
 intro a w
 simp only[List.mem_cons,List.not_mem_nil,or_false] at hK
 rcases hK with rfl|rfl|rfl|rfl|rfl|rfl|rfl|rfl|rfl|rfl|rfl|rfl <;> kernel_rfl
theorem form_any (c:Ctx) (K o:Nat) (hK:K∈([1,3,4,5,6,7,8,9,10,11,12,13]:List Nat)) (ts:List Tk) (w:World) (h:Inv c ts w) (b:Nat) (hap:c.Apart b) (hD:Blk w b 52 #[.int .i64 K,.string ⟨#[]⟩,.slice none 0 0,.slice none 0 0,.int .i64 0,.string ⟨#[]⟩,.string ⟨#[]⟩,.string ⟨#[]⟩,.slice none 0 0,.int .i64 0,.slice none 0 0,.int .i64 0,.slice none 0 0,.slice none 0 0,.slice none 0 0,.slice none 0 0,.int .i64 o]) (n m:Nat) (S:Px.Rd StmtD) (hty:Reads c 77 n (okAgg typeQ) (Px.typeF c.size n)) (hst:Reads c 105 m (okAgg stmtQ) S) (hsh:Shr S) (hstr:Strict S) (hm:ts.length<n) (hm2:ts.length<m) :
  Calls Tryz.prog (fnNum K) #[.pointer (some ⟨c.R,0,none⟩),.pointer (some ⟨b,0,none⟩)] w (RPB c b 52 w (okCells stmtQ) (Px.afterForm c.size n S K o ts)):=by
 have hst':∀ k,k≤m→Reads c 105 k (okAgg stmtQ) S:=fun k hk ts w h hl=>hst ts w h (by omega)
 have hra':Reads c 80 (min n m) (okAgg armQ) (Px.arm c.size S):=fun ts w h hl=>arm_any c ts w h n m S hty hst hsh hstr (by omega) (by omega)
 simp only[List.mem_cons,List.not_mem_nil,or_false] at hK
 rcases hK with rfl|rfl|rfl|rfl|rfl|rfl|rfl|rfl|rfl|rfl|rfl|rfl
 ·exact let_any c o ts w h b hap hD n m S hty hst hsh hstr hm hm2
 ·exact store_any c o ts w h b hap hD n m S hty hst hsh hstr hm hm2
 ·exact choice_any c o ts w h b hap hD n m S hty hst hsh hstr hm hm2
 ·exact loop_any c o ts w h b hap hD n m S hty hst hsh hstr hm hm2
 ·exact match_any c o ts w h b hap hD n (min n m) S hty (hst' _ (by omega)) hsh hstr hm (by omega) hra'
 ·exact named_any c 7 o ts w h b hap hD n m S hty hst hsh hstr hm hm2
 ·exact bare_any c o ts w h b hap hD n m S hty hst hsh hstr hm hm2
 ·exact named_any c 9 o ts w h b hap hD n m S hty hst hsh hstr hm hm2
 ·exact named_any c 10 o ts w h b hap hD n m S hty hst hsh hstr hm hm2
 ·exact send_any c o ts w h b hap hD n m S hty hst hsh hstr hm hm2
 ·exact spawn_any c o ts w h b hap hD n m S hty hst hsh hstr hm hm2
 ·exact local_any c o ts w h b hap hD n m S hty hst hsh hstr hm hm2
set_option maxRecDepth 100000 in
set_option maxHeartbeats 1600000 in
theorem stmt_found (c:Ctx) (n m:Nat) (ts:List Tk) (w:World) (h:Inv c ts w) (hty:Reads c 77 n (okAgg typeQ) (Px.typeF c.size n)) (hst:Reads c 105 m (okAgg stmtQ) (Px.stmtF c.size n m)) (hm:ts.length<n) (hm2:ts.length<m+1) (hset:Px.formOf (Px.word ts)≠2) :
  Calls Tryz.prog 105 #[.pointer (some ⟨c.R,0,none⟩)] w (RP c w (okAgg stmtQ) (Px.stmtF c.size n (m+1) ts)):=by
 have HST:Hid (Reads c 105 m (okAgg stmtQ) (Px.stmtF c.size n m)):=hid hst
 clear hst
 have HTY:Hid (Reads c 77 n (okAgg typeQ) (Px.typeF c.size n)):=hid hty
 clear hty
 obtain⟨K,hKS⟩:∃ K,Px.formOf (Px.word ts)=K:=⟨_,rfl⟩
 have HKM:Hid (K∈([1,3,4,5,6,7,8,9,10,11,12,13]:List Nat)):=hid (by rw[← hKS];exact(formOf_kinds _).resolve_left hset)
 have HK2:Hid (K≠2):=hid (by rw[← hKS];exact hset)
 have HK0:Hid (K≠0):=hid (by intro e;have:=HKM.out;rw[e] at this;exact absurd this (by decide))
 have HNE:Hid (ts≠[]):=hid (by rintro rfl;exact hset rfl)
 have HEN:Hid (Enters (fnNum K)):=hid (enters_form K HKM.out)
 have HFB:Hid ((!(Px.formOf (Px.word ts) == 2))=true):=hid (by simpa using hset)
 have HKA:Hid (kindAt (Px.word ts)=K):=hid (by unfold kindAt;rw[if_neg hset,hKS])
 have HKS:=hid hKS
 have HW:=hid (word_len h)
 clear hset hKS
 have H:=hid h
 have HR0:=H.out.lt.1
 clear h
 go_enter Tryz.func105,Tryz.ntmps105
 go_wp2_with fail
 refine(offset_any c ts _ (by exact H.out.fr (X:=[]) H.out (by repeat' (first|with_reducible exact Fr.refl _ _|with_reducible refine Fr.setCell ?_ (Or.inl ?_) _|with_reducible refine Fr.alloc ?_ _|with_reducible refine Fr.drewN ?_ _|with_reducible refine Fr.drew ?_|(simp;done))) (by simp))).mono ?_
 rintro e w' ⟨rfl,rfl⟩
 go_upto_region 2 with fail
 obtain⟨w0,hw0⟩:∃ w0,w0=(w.alloc (.cells #[.int .i64 0,.string ⟨#[]⟩,.slice none 0 0,.slice none 0 0,.int .i64 0,.string ⟨#[]⟩,.string ⟨#[]⟩,.string ⟨#[]⟩,.slice none 0 0,.int .i64 0,.slice none 0 0,.int .i64 0,.slice none 0 0,.slice none 0 0,.slice none 0 0,.slice none 0 0,.int .i64 0] 52)).alloc (.cells #[.int .i64 0,.string ⟨#[]⟩,.slice none 0 0,.slice none 0 0,.int .i64 0,.string ⟨#[]⟩,.string ⟨#[]⟩,.string ⟨#[]⟩,.slice none 0 0,.int .i64 0,.slice none 0 0,.int .i64 0,.slice none 0 0,.slice none 0 0,.slice none 0 0,.slice none 0 0,.int .i64 (offOf c.size ts)] 52):=⟨_,rfl⟩
 have HI0:Hid (Inv c ts w0):=hid (by rw[hw0];exact(H.out.alloc _).alloc _)
 have HF0:Hid (Fr [c.R] w w0):=hid (by rw[hw0];exact((Fr.refl _ _).alloc _).alloc _)
 have HB0:Hid (Blk w0 (w.heap.size) 52 #[.int .i64 0,.string ⟨#[]⟩,.slice none 0 0,.slice none 0 0,.int .i64 0,.string ⟨#[]⟩,.string ⟨#[]⟩,.string ⟨#[]⟩,.slice none 0 0,.int .i64 0,.slice none 0 0,.int .i64 0,.slice none 0 0,.slice none 0 0,.slice none 0 0,.slice none 0 0,.int .i64 0]):=hid (by rw[hw0];exact(Blk.new _ _ _).alloc _)
 have HD0:Hid (Blk w0 (w.heap.size+1) 52 #[.int .i64 0,.string ⟨#[]⟩,.slice none 0 0,.slice none 0 0,.int .i64 0,.string ⟨#[]⟩,.string ⟨#[]⟩,.string ⟨#[]⟩,.slice none 0 0,.int .i64 0,.slice none 0 0,.int .i64 0,.slice none 0 0,.slice none 0 0,.slice none 0 0,.slice none 0 0,.int .i64 (offOf c.size ts)]):=hid (by rw[hw0];exact Blk.new_at (by simp))
 have hz0:w0.heap.size=w.heap.size+2:=by rw[hw0];simp
 have hz0a:w0.heap.size≤w.heap.size+2:=by omega
 have hz0b:w.heap.size+2≤w0.heap.size:=by omega
 have HZ0:=hid hz0
 rw[← hw0]
 have hR3:=stmt_cell HI0.out
 have hRlt:=HI0.out.lt.1
 have hl1:=forms_look c ts w0.drew HI0.out.drew HW.out
 have hl2:=forms_look c ts (w0.alloc (.cells #[.int .i64 0,.nilFunc] 114)).drew (HI0.out.alloc _).drew HW.out
 simp only[HFB.out,HKA.out] at hl1 hl2
 have hwd1:=word_any c ts w0.drew HI0.out.drew
 have hwd2:=word_any c ts (w0.alloc (.cells #[.int .i64 0,.nilFunc] 114)).drew (HI0.out.alloc _).drew
 have HWD1:=hid hwd1
 have HWD2:=hid hwd2
 clear hw0 hz0 hwd1 hwd2
 unfold formV at hl1 hl2;simp only[if_neg HK0.out] at hl1 hl2
 go_cut [4,5] (fun s4 s5 wx=>s4=.pointer (some ⟨w0.heap.size,0,none⟩)∧s5=.bool true∧wx=(w0.alloc (.cells #[.int .i64 K,.func (.func (fnNum K)) #[] #[]] 114)).drew)
 case first =>
  go_region_held3 (fun w'=>w'.cell? ⟨c.R,3,none⟩=some (.map (some c.Sb))) (go_keep) (first|(go_at_call 85;refine HWD1.out.mono ?_;rintro e w' ⟨rfl,rfl⟩)|(go_at_call 85;refine HWD2.out.mono ?_;rintro e w' ⟨rfl,rfl⟩))
  all_goals (try go_wp2_with fail)
  all_goals (go_meet;exact⟨rfl,rfl,rfl⟩)
 case rest =>
  obtain⟨rfl,rfl,rfl⟩:=hcut
  clear hl1 hl2 hR3
  go_wp2_with fail
  refine(take_ts c ts _ (by exact(HI0.out.alloc _).drew) HNE.out).mono ?_
  rintro e w1 ⟨v1,rfl,hf,hi⟩
  have hT:Fr [c.R] w0 w1:=Fr.trans (by repeat' (first|with_reducible exact Fr.refl _ _|with_reducible refine Fr.setCell ?_ (Or.inl ?_) _|with_reducible refine Fr.alloc ?_ _|with_reducible refine Fr.drewN ?_ _|with_reducible refine Fr.drew ?_|(simp;done))) hf
  have HS1:Hid (Blk w1 w0.heap.size 114 #[.int .i64 K,.func (.func (fnNum K)) #[] #[]]):=hid ((Blk.drew (Blk.new w0 _ _)).keep hf (by simp;omega))
  have HD1:=hid (HD0.out.k hT)
  have HB1:=hid (HB0.out.k hT)
  have HF1:=hid (HF0.out.trans hT)
  have HI1:=hid hi
  have hz1:w0.heap.size+1≤w1.heap.size:=by have:=hf.size;simp at this;omega
  have hl1:ts.tail.length+1=ts.length:=by have:=HNE.out;cases ts with|nil=>exact absurd rfl this|cons t r=>simp
  have k0:=HS1.out.at 0 (v:=.int .i64 K) rfl
  have k1:=HS1.out.at 1 (v:=.func (.func (fnNum K)) #[] #[]) rfl
  have hne2:w.heap.size+1≠w0.heap.size:=by omega
  have hne3:w0.heap.size≠w.heap.size+1:=by omega
  clear hT hf hi
  have hEn:=HEN.out
  unfold Enters at hEn
  have hlD:=HD1.out.lt
  obtain⟨d0,f0⟩:=HD1.out.df 0 (v:=.int .i64 0) rfl
  go_wp2_with fail
  clear hlD d0 f0
  clear hEn k0 k1 hne2 hne3
  refine(form_any c K (offOf c.size ts) HKM.out ts.tail _ (by exact HI1.out.fr (X:=[w.heap.size+1]) H.out (by repeat' (first|with_reducible exact Fr.refl _ _|with_reducible refine Fr.setCell ?_ (Or.inl ?_) _|with_reducible refine Fr.alloc ?_ _|with_reducible refine Fr.drewN ?_ _|with_reducible refine Fr.drew ?_|(simp;done))) (by simp)) (w.heap.size+1) (H.out.apart (by simp)) (by exact HD1.out.set 0 _) n m (Px.stmtF c.size n m) HTY.out HST.out (shr_stmtF _ _ _) (strict_stmtF _ _ _) (by omega) (by omega)).mono ?_
  rintro e w2 hp
  rcases hp.cases with ⟨x2,ts2,cs2,hq2,hf,hi,rfl,hDn,hrep⟩|⟨ts2,hq2,hf,hi,rfl⟩
  ·clear hp
   unfold okCells at hrep
   obtain⟨i2_0,s2_1,p2_2,n2_2,c2_2,p2_3,n2_3,c2_3,i2_4,s2_5,s2_6,s2_7,p2_8,n2_8,c2_8,i2_9,p2_10,n2_10,c2_10,i2_11,p2_12,n2_12,c2_12,p2_13,n2_13,c2_13,p2_14,n2_14,c2_14,p2_15,n2_15,c2_15,i2_16,rfl⟩:=hrep.c_stmtQ
   have hT:Fr [c.R,w.heap.size+1] w1 w2:=Fr.trans (by repeat' (first|with_reducible exact Fr.refl _ _|with_reducible refine Fr.setCell ?_ (Or.inl ?_) _|with_reducible refine Fr.alloc ?_ _|with_reducible refine Fr.drewN ?_ _|with_reducible refine Fr.drew ?_|(simp;done))) hf
   have HD2:Hid (Blk w2 (w.heap.size+1) 52 #[.int .i64 i2_0,.string s2_1,.slice p2_2 n2_2 c2_2,.slice p2_3 n2_3 c2_3,.int .i64 i2_4,.string s2_5,.string s2_6,.string s2_7,.slice p2_8 n2_8 c2_8,.int .i64 i2_9,.slice p2_10 n2_10 c2_10,.int .i64 i2_11,.slice p2_12 n2_12 c2_12,.slice p2_13 n2_13 c2_13,.slice p2_14 n2_14 c2_14,.slice p2_15 n2_15 c2_15,.int .i64 i2_16]):=hid hDn
   have HB2:=hid (HB1.out.k hT)
   have hV2:Rep w2 (fun k=>w.heap.size+3≤k) _ _:=hrep.mono (fun k hk _=>⟨by (try simp at hk);omega,rfl⟩)
   have HV2:=hid hV2
   have HI2:=hid hi
   have HF2:=hid (HF1.out.j hT)
   have hz2:=hf.size;try simp at hz2
   clear hT hf hi hrep hV2 hDn
   go_wp2_with (first|(refine wpList_load_row rfl 52 _ rfl (w.heap.size+1) rfl 52 #[.int .i64 i2_0,.string s2_1,.slice p2_2 n2_2 c2_2,.slice p2_3 n2_3 c2_3,.int .i64 i2_4,.string s2_5,.string s2_6,.string s2_7,.slice p2_8 n2_8 c2_8,.int .i64 i2_9,.slice p2_10 n2_10 c2_10,.int .i64 i2_11,.slice p2_12 n2_12 c2_12,.slice p2_13 n2_13 c2_13,.slice p2_14 n2_14 c2_14,.slice p2_15 n2_15 c2_15,.int .i64 i2_16] (0,0) _ HD2.out Tryz.underlying52 rfl stmt_size ?_)|(refine wpList_store_row rfl 52 _ _ rfl w.heap.size #[.int .i64 i2_0,.string s2_1,.slice p2_2 n2_2 c2_2,.slice p2_3 n2_3 c2_3,.int .i64 i2_4,.string s2_5,.string s2_6,.string s2_7,.slice p2_8 n2_8 c2_8,.int .i64 i2_9,.slice p2_10 n2_10 c2_10,.int .i64 i2_11,.slice p2_12 n2_12 c2_12,.slice p2_13 n2_13 c2_13,.slice p2_14 n2_14 c2_14,.slice p2_15 n2_15 c2_15,.int .i64 i2_16] rfl rfl 52 _ HB2.out stmt_size rfl (by simp[Value.oneCell']) ?_))
   have hfs:Fr [w.heap.size] w2 (w2.setRow w.heap.size #[.int .i64 i2_0,.string s2_1,.slice p2_2 n2_2 c2_2,.slice p2_3 n2_3 c2_3,.int .i64 i2_4,.string s2_5,.string s2_6,.string s2_7,.slice p2_8 n2_8 c2_8,.int .i64 i2_9,.slice p2_10 n2_10 c2_10,.int .i64 i2_11,.slice p2_12 n2_12 c2_12,.slice p2_13 n2_13 c2_13,.slice p2_14 n2_14 c2_14,.slice p2_15 n2_15 c2_15,.int .i64 i2_16]):=fr_setRow _ _ _
   have hbs:=setRow_heap w2 w.heap.size _ #[.int .i64 i2_0,.string s2_1,.slice p2_2 n2_2 c2_2,.slice p2_3 n2_3 c2_3,.int .i64 i2_4,.string s2_5,.string s2_6,.string s2_7,.slice p2_8 n2_8 c2_8,.int .i64 i2_9,.slice p2_10 n2_10 c2_10,.int .i64 i2_11,.slice p2_12 n2_12 c2_12,.slice p2_13 n2_13 c2_13,.slice p2_14 n2_14 c2_14,.slice p2_15 n2_15 c2_15,.int .i64 i2_16] 52 (0,0) HB2.out
   refine bodyPost_ret (v:=.agg #[.int .i64 i2_0,.string s2_1,.slice p2_2 n2_2 c2_2,.slice p2_3 n2_3 c2_3,.int .i64 i2_4,.string s2_5,.string s2_6,.string s2_7,.slice p2_8 n2_8 c2_8,.int .i64 i2_9,.slice p2_10 n2_10 c2_10,.int .i64 i2_11,.slice p2_12 n2_12 c2_12,.slice p2_13 n2_13 c2_13,.slice p2_14 n2_14 c2_14,.slice p2_15 n2_15 c2_15,.int .i64 i2_16]) (results_cell_row (p:=2) rfl _ _ w.heap.size 52 #[.int .i64 i2_0,.string s2_1,.slice p2_2 n2_2 c2_2,.slice p2_3 n2_3 c2_3,.int .i64 i2_4,.string s2_5,.string s2_6,.string s2_7,.slice p2_8 n2_8 c2_8,.int .i64 i2_9,.slice p2_10 n2_10 c2_10,.int .i64 i2_11,.slice p2_12 n2_12 c2_12,.slice p2_13 n2_13 c2_13,.slice p2_14 n2_14 c2_14,.slice p2_15 n2_15 c2_15,.int .i64 i2_16] (0,0) _ rfl hbs Tryz.underlying52 rfl stmt_size) rfl ?_
   exact RP.ok (by simp only[Px.stmtF,bind,Px.Rd.bind,offset_res,if_true,if_false,Bool.false_eq_true,Px.wordR,HKS.out,if_neg HK2.out,Px.take,hq2.out] <;> rfl) (HF2.out.join (X:=[w.heap.size]) (hfs.mono (fun k _ hk=>by simp at hk;simp[hk])) (by simp)) (HI2.out.fr (X:=[w.heap.size]) H.out hfs (by simp)) ⟨_,rfl,rep_own (b:=w.heap.size) HV2.out (X:=[w.heap.size]) hfs (by simp) (by omega)⟩
  ·go_wp2_with fail
   exact⟨rfl,RP.bad (by simp only[Px.stmtF,bind,Px.Rd.bind,offset_res,if_true,if_false,Bool.false_eq_true,Px.wordR,HKS.out,if_neg HK2.out,Px.take,hq2.out]) (HF1.out.join (Fr.trans (by repeat' (first|with_reducible exact Fr.refl _ _|with_reducible refine Fr.setCell ?_ (Or.inl ?_) _|with_reducible refine Fr.alloc ?_ _|with_reducible refine Fr.drewN ?_ _|with_reducible refine Fr.drew ?_|(simp;done))) hf) (by simp)) hi⟩
theorem stmt_any (c:Ctx) (n:Nat) (hty:Reads c 77 n (okAgg typeQ) (Px.typeF c.size n)):∀ m,m≤n→Reads c 105 m (okAgg stmtQ) (Px.stmtF c.size n m)
 | 0,_=>fun ts w h hm=>absurd hm (Nat.not_lt_zero _)
 | m+1,hmn=>fun ts w h hm=>by
  have ih:=stmt_any c n hty m (by omega)
  by_cases hf:Px.formOf (Px.word ts)=2
  ·exact stmt_set c n m ts w h hty (by omega) hf
  ·exact stmt_found c n m ts w h hty ih (by omega) (by omega) hf
theorem function_any (c:Ctx) (off:Nat) (ts:List Tk) (w:World) (h:Inv c ts w) (n:Nat) (hm:ts.length<n) :
  Calls Tryz.prog 93 #[.pointer (some ⟨c.R,0,none⟩),.int .i64 off] w (RP c w (okAgg funcQ) (Px.function c.size n off ts)) :=
 function_gen c off ts w h n n (Px.stmtF c.size n n) (type_any c n) (stmt_any c n (type_any c n) n (Nat.le_refl _)) (shr_stmtF _ _ _) (strict_stmtF _ _ _) hm hm
end Go.Proofs.YtghohohagbbajaaGreatDoor
