/- part of the proof -/
import Derived.Test.YtghohohagbbajaaGreatDoorYKH
import Derived.Test.YtghohohagbbajaaGreatDoorYBC
import Derived.Test.YtghohohagbbajaaGreatDoorYKC
import Derived.Test.YtghohohagbbajaaGreatDoorYKL
set_option linter.unusedVariables false
set_option linter.unusedSimpArgs false
set_option linter.unusedSectionVars false
namespace Go.Proofs.YtghohohagbbajaaGreatDoor
open Go.RowKit Go.Lib
open Lx (Tk)
open Px (Txt TyE VarD DataD TraitD BoundD ImplD ArgD ExprD StmtD ArmD FuncD ModD)
def WJ (sz n:Nat) (s0:RS) (us:List Txt) (s:RS):Prop :=
 ∃ k,s.mu≤k∧∀ l s2,Rel sz (Px.usesF k us) s l s2→Rel sz (Px.usesF n []) s0 l s2
theorem WJ.start {sz n:Nat} {s:RS} (h:s.mu≤n):WJ sz n s [] s:=⟨n,h,fun _ _ h=>h⟩
theorem WJ.more {sz n:Nat} {s0 s s1 s2 s3:RS} {us:List Txt} {x y:Txt} (h:WJ sz n s0 us s) (h1:Rel sz (Px.accept [[117,115,101]]) s true s1) (hm:s1.mu<s.mu) (h2:Rel sz Px.name s1 x s2) (h3:Rel sz (Px.expect [[59]]) s2 y s3):WJ sz n s0 (us ++ [x]) s3:=by
 obtain⟨k,hk,hall⟩:=h
 cases k with
 | zero=>omega
 | succ k =>
  have g2:=h2.mu Shr.name
  have g3:=h3.mu (Shr.expect _)
  refine⟨k,by omega,fun l s4 h4=>hall l s4 ?_⟩
  unfold Px.usesF
  refine Rel.bind h1 ?_
  simp only[if_true]
  exact Rel.bind h2 (Rel.bind h3 h4)
theorem WJ.stop {sz n:Nat} {s0 s:RS} {us:List Txt} (h:WJ sz n s0 us s) (h1:Rel sz (Px.accept [[117,115,101]]) s false s):Rel sz (Px.usesF n []) s0 us s:=by
 obtain⟨k,hk,hall⟩:=h
 refine hall _ _ ?_
 cases k with
 | zero=>exact Rel.ofZero (by omega)
 | succ k =>
  unfold Px.usesF
  refine Rel.bind h1 ?_
  simp only[Bool.false_eq_true,if_false]
  exact Rel.pure _ _
def NJ (sz n:Nat) (M0:ModD) (s0:RS) (M:ModD) (s:RS):Prop :=
 ∃ k,s.mu≤k∧∀ l s2,Rel sz (Px.itemsF sz n k M) s l s2→Rel sz (Px.itemsF sz n n M0) s0 l s2
theorem NJ.start {sz n:Nat} {M0:ModD} {s:RS} (h:s.mu≤n):NJ sz n M0 s M0 s:=⟨n,h,fun _ _ h=>h⟩
theorem NJ.stop0 {sz n:Nat} {M0 M:ModD} {s0 s:RS} (h:NJ sz n M0 s0 M s) (h0:s.mu=0):Rel sz (Px.itemsF sz n n M0) s0 M s:=by
 obtain⟨k,hk,hall⟩:=h
 exact hall _ _ (Rel.ofZero h0)
theorem NJ.stop1 {sz n:Nat} {M0 M:ModD} {s0:RS} (h:NJ sz n M0 s0 M (.live [])):Rel sz (Px.itemsF sz n n M0) s0 M (.live []):=by
 obtain⟨k,hk,hall⟩:=h
 refine hall _ _ ?_
 cases k with
 | zero=>simp[RS.mu] at hk
 | succ k =>
  simp only[Rel,itemsF_no]
  exact⟨trivial,trivial⟩
theorem NJ.more {sz n:Nat} {M0 M M':ModD} {s0 s2:RS} {t:Tk} {r:List Tk} (h:NJ sz n M0 s0 M (.live (t :: r))) (h1:Rel sz (Px.item sz n M) (.live (t :: r)) M' s2):NJ sz n M0 s0 M' s2∧s2.mu<(RS.live (t :: r)).mu:=by
 obtain⟨k,hk,hall⟩:=h
 have hm:=h1.strict (fun _ _ _ h=>(item_sizes h).2) (by simp[RS.mu])
 refine⟨?_,hm⟩
 cases k with
 | zero=>simp[RS.mu] at hk
 | succ k =>
  refine⟨k,by omega,fun l s4 h4=>hall l s4 ?_⟩
  unfold Px.itemsF
  refine Rel.bind (p:=Px.doneR) (a:=false) (s1:=.live (t :: r)) ⟨rfl,rfl⟩ ?_
  simp only[Bool.false_eq_true,if_false]
  exact Rel.bind h1 h4
theorem Rel.expect_at {sz:Nat} {ws:List Txt} {t:Tk} {r:List Tk} (h:ws.contains t.text=true):Rel sz (Px.expect ws) (.live (t :: r)) t.text (.live r):=by
 have h1:Px.expect ws (t :: r)=.ok t.text r:=by simp only[Px.expect];rw[if_pos (show ws.contains (Px.word (t :: r))=true from h)];rfl
 simp only[Rel,h1]
 exact⟨trivial,trivial⟩
abbrev itW:List Txt:=[[100,97,116,97],[116,114,97,105,116],[105,109,112,108],[102,110]]
theorem item_data {sz n:Nat} {M:ModD} {t:Tk} {r:List Tk} {o:Nat} {d:DataD} {s2:RS} (ht:t.text=[100,97,116,97]) (ho:Rel sz (Px.offsetR sz) (.live (t :: r)) o (.live (t :: r))) (h:Rel sz (Px.data sz n o) (.live r) d s2):Rel sz (Px.item sz n M) (.live (t :: r)) { M with datas:=M.datas ++ [d] } s2:=by
 unfold Px.item
 refine Rel.bind ho ?_
 refine Rel.bind (Rel.expect_at (by rw[ht];decide)) ?_
 rw[ht,if_pos rfl]
 exact Rel.bind h (Rel.pure _ _)
theorem item_trait {sz n:Nat} {M:ModD} {t:Tk} {r:List Tk} {o:Nat} {x y:Txt} {s2 s3:RS} (ht:t.text=[116,114,97,105,116]) (ho:Rel sz (Px.offsetR sz) (.live (t :: r)) o (.live (t :: r))) (h:Rel sz Px.name (.live r) x s2) (h3:Rel sz (Px.expect [[59]]) s2 y s3):Rel sz (Px.item sz n M) (.live (t :: r)) { M with traits:=M.traits ++ [⟨x,o⟩] } s3:=by
 unfold Px.item
 refine Rel.bind ho ?_
 refine Rel.bind (Rel.expect_at (by rw[ht];decide)) ?_
 rw[ht,if_neg (by decide),if_pos rfl]
 exact Rel.bind (p:=Px.trait o) (a:=⟨x,o⟩) (Rel.bind h (Rel.bind h3 (Rel.pure _ _))) (Rel.pure _ _)
theorem item_impl {sz n:Nat} {M:ModD} {t:Tk} {r:List Tk} {o:Nat} {d:ImplD} {s2:RS} (ht:t.text=[105,109,112,108]) (ho:Rel sz (Px.offsetR sz) (.live (t :: r)) o (.live (t :: r))) (h:Rel sz (Px.implementation sz n o) (.live r) d s2):Rel sz (Px.item sz n M) (.live (t :: r)) { M with impls:=M.impls ++ [d] } s2:=by
 unfold Px.item
 refine Rel.bind ho ?_
 refine Rel.bind (Rel.expect_at (by rw[ht];decide)) ?_
 rw[ht,if_neg (by decide),if_neg (by decide),if_pos rfl]
 exact Rel.bind h (Rel.pure _ _)
theorem item_func {sz n:Nat} {M:ModD} {t:Tk} {r:List Tk} {o:Nat} {d:FuncD} {s2:RS} (ht:t.text=[102,110]) (ho:Rel sz (Px.offsetR sz) (.live (t :: r)) o (.live (t :: r))) (h:Rel sz (Px.function sz n o) (.live r) d s2):Rel sz (Px.item sz n M) (.live (t :: r)) { M with funcs:=M.funcs ++ [d] } s2:=by
 unfold Px.item
 refine Rel.bind ho ?_
 refine Rel.bind (Rel.expect_at (by rw[ht];decide)) ?_
 rw[ht,if_neg (by decide),if_neg (by decide),if_neg (by decide)]
 exact Rel.bind h (Rel.pure _ _)
theorem item_none {sz n:Nat} {M:ModD} {t:Tk} {r:List Tk} (ht:itW.contains t.text=false):Rel sz (Px.item sz n M) (.live (t :: r)) M (.dead (errOf (t :: r)) (offOf sz (t :: r))):=by
 have h1:Px.expect itW (t :: r)=.bad (t :: r):=by simp only[Px.expect];rw[if_neg (by rw[show Px.word (t :: r)=t.text from rfl,ht];decide)]
 have h2:Px.item sz n M (t :: r)=.bad (t :: r):=by
  unfold Px.item
  simp only[bind,Px.Rd.bind,Px.offsetR]
  rw[show ([[100,97,116,97],[116,114,97,105,116],[105,109,112,108],[102,110]]:List Txt)=itW from rfl,h1]
 simp only[Rel,h2]
set_option maxRecDepth 100000 in
set_option maxHeartbeats 6400000 in
theorem rmodule_any (c:RCtx) (n:Nat) (s:RS) (w:World) (h:IR c s w) (hm:s.mu≤n) :
  Calls Tryz.prog 12 #[.pointer (some ⟨c.R,0,none⟩)] w (RD c w (okAgg modQ) (Px.module c.size n) s):=by
 have H:=hid h
 have HR0:=H.out.lt.1
 clear h
 go_enter Tryz.func12,Tryz.ntmps12
 go_wp2_with fail
 refine(rneed_q c s [109,111,100,117,108,101] _ (by exact H.out.f [] H.out)).mono ?_
 rintro e w1 ⟨rfl,x1,s1,hq1,hf,hi⟩
 have hT:Fr [c.R] w w1:=Fr.trans frk hf.wide
 have hz1:=hf.size;try simp at hz1
 have HB1:Hid (Blk w1 (w.heap.size) 29 #[zS,zN,zN,zN,zN,zN]):=hid ((Blk.new w _ _).keep hf (by first|(simp;done)|omega|(simp;omega)))
 have HI1:=hid hi
 have HF1:=hid ((Fr.refl [c.R] w).j hT)
 have hl1:=hq1.out.mu (Shr.expect _)
 clear hT hf hi
 go_wp2_with fail
 refine(rname_any c s1 _ (by exact HI1.out.f [] H.out)).mono ?_
 rintro e w2 ⟨_,x2,s2,rfl,hq2,hf,hi,rfl⟩
 obtain⟨hT,HB2,HI2,HF2,hz2⟩:=IR.st [] HB1.out HF1.out hf hi
 try simp at hz2
 have hl2:=hq2.out.mu Shr.name
 clear hT hf hi
 have hneDB:w2.heap.size≠w.heap.size:=by omega
 have hneBD:=hneDB.symm
 go_wp2_with (refine wpList_store_row rfl 29 _ _ rfl (w2.heap.size) #[.string ⟨x2.toArray⟩,.slice none 0 0,.slice none 0 0,.slice none 0 0,.slice none 0 0,.slice none 0 0] rfl rfl 29 _ (Blk.new_at (by simp)) mod_size rfl (by simp[Value.oneCell']) ?_)
 refine(rneed_any c s2 [59] _ (by exact HI2.out.f [w2.heap.size] H.out) (by decide) (by decide)).mono ?_
 rintro e w3 ⟨rfl,x3,s3,hq3,hf,hi⟩
 obtain⟨hT,HB3,HI3,HF3,hz3⟩:=IR.st [w2.heap.size] HB2.out HF2.out hf hi
 try simp at hz3
 have HD3:Hid (Blk w3 (w2.heap.size) 29 #[.string ⟨x2.toArray⟩,zN,zN,zN,zN,zN]):=hid ((show Blk _ (w2.heap.size) 29 #[.string ⟨x2.toArray⟩,zN,zN,zN,zN,zN] from setRow_heap _ _ _ _ _ _ (Blk.new_at (by simp))).k hf)
 have hl3:=hq3.out.mu (Shr.expect _)
 clear hT hf hi
 have hlD:=HD3.out.lt
 go_wp2_with fail
 clear hlD
 go_loopw [] (fun wr=>∃ (us:List Txt) (su:RS) (pc:Option Addr) (cc:Nat),ListAt wr (w2.heap.size+1) 9 1 us.length (rowsQ strQ us) (.slice pc us.length cc)∧IR c su wr∧Fr [c.R] w wr∧w3.heap.size≤wr.heap.size∧Blk wr (w2.heap.size) 29 #[.string ⟨x2.toArray⟩,.slice pc us.length cc,zN,zN,zN,zN]∧Blk wr (w.heap.size) 29 #[zS,zN,zN,zN,zN,zN]∧su.mu≤s3.mu∧us.length+su.mu≤6002∧WJ c.size n s3 us su) (fun wr=>rMu c wr)
 case atStart=>exact⟨[],s3,none,0,.inl ⟨rfl,rfl,rfl⟩,HI3.out,HF3.out,Nat.le_refl _,HD3.out,HB3.out,Nat.le_refl _,by (try simp);have:=HI3.out.mu_le;omega,WJ.start (by omega)⟩
 case round =>
  obtain⟨us,su,pc,cc,hL,hi,hf,hzz,hD,hB,hle,hn,hJ⟩:=hrel
  have HL:=hid hL
  have HI2:=hid hi
  have HF:=hid hf
  have HDR:=hid hD
  have HBR:=hid hB
  have HJ:=hid hJ
  clear hL hi hf hD hB hJ
  go_wp2_with fail
  refine(rnext_any c su [117,115,101] _ (by exact HI2.out.f [w2.heap.size] H.out) (by decide) (by decide)).mono ?_
  rintro e w4 hp
  rcases hp.next with ⟨s4,hq4,hl4,rfl,hf,hi⟩|⟨hq4,rfl,hf,hi⟩
  ·clear hp
   have hfk4:=hid hf
   obtain⟨hT,HB4,HI4,HF4,hz4⟩:=IR.st [w2.heap.size] HBR.out HF.out hf hi
   try simp at hz4
   have HD4:=hid (HDR.out.k hf)
   clear hT hf hi
   go_wp2_with fail
   obtain⟨i0,hinf,iz0,iz1,iz2⟩:=info_parts info_str
   have HINF:=hid hinf
   clear hinf
   have HLY:=hid (HL.out.keep hfk4.out (by simp;omega))
   have hlD:=HD4.out.lt
   obtain⟨d1,f1⟩:=HD4.out.df 1 (v:=.slice pc us.length cc) rfl
   have hbw:(w2.heap.size+1)≤w4.heap.size:=by omega
   have hRb:c.R<(w2.heap.size+1):=by omega
   go_region_law (first|(refine step_append_list _ (by rfl) _ _ 23 (by rfl) ((w2.heap.size+1)) 9 i0 _ 1 16 Tryz.underlying23 HINF.out iz0 iz1 iz2 rfl (by decide) (.slice pc us.length cc) (us.length) 1 (rowsQ strQ us) (strQ x5) (by rfl) G1.out ⟨w5.heap.size,0,none⟩ 1 [.string ⟨x5.toArray⟩] (by rfl) (by decide) rfl G2.out G3.out (by omega) (by decide) g4 ?_;intro p' c' w6 hL6 hg6;have hown:∀ k,(.slice pc us.length cc:Value).ownBlock=some k→(w2.heap.size+1)≤k:=(fun k e=>(HLY.out.own k e).1);have HD6:=hid ((HD5.out.alloc _).grown hg6 (fun k e=>by have:=hown k e;omega));obtain⟨k6,m6⟩:=HD6.out.df 1 (v:=.slice pc us.length cc) rfl;have HL6:=hid hL6;have HG6:=hid hg6;clear hL6 hg6)|(go_simp;go_at_call 24;refine(rname_any c s4 _ (by exact(HI4.out.f [] H.out))).mono ?_;rintro e w5 hp;obtain⟨v5,x5,s5,rfl,hq5,hf5,hi5,hv5⟩:=hp;have hx5:Fr [c.R] w4 w5:=Fr.trans frk hf5;obtain rfl:=hv5;have hrep:Rep w5 (fun k=>w4.heap.size≤k) (strQ x5) [.string ⟨x5.toArray⟩]:=(by unfold strQ;rw[rep_str];exact⟨_,rfl,rep_nil.2 rfl⟩);have HD5:=hid (HD4.out.k hx5);have k5:=HD5.out.at 1 (v:=.slice pc us.length cc) rfl;have hlx5:=HD5.out.lt;obtain⟨g1,g2,g3,g4⟩:=append_ready (news:=[.string ⟨x5.toArray⟩]) HLY.out (Nat.le_refl _) hx5 hRb hbw hrep 9;have G1:=hid g1;have G2:=hid g2;have G3:=hid g3;have HX5:=hid hx5;have HI5c:=hid hi5;have hh5:w4.heap.size≤w5.heap.size:=hx5.size;clear g1 g2 g3 hrep hx5 hi5 hf5))
   all_goals
    have hFG:FrB [c.R] ((w2.heap.size+1)) w4 w6:=frb_grown (HX5.out.alloc (.cells #[.string ⟨x5.toArray⟩] 9)) HG6.out hown
    have hz6:w4.heap.size≤w6.heap.size:=hFG.size
    have HI6:Hid (IR c s5 w6):=hid ((HI5c.out.alloc _).grown H.out HG6.out (fun k e=>by have:=hown k e;omega))
    have HB6:=hid (((HB4.out.k HX5.out).alloc _).grown HG6.out (fun k e=>by have:=hown k e;omega))
    have HF6:Hid (Fr [c.R] w w6):=hid (HF4.out.frb hFG (by omega))
    clear k6 m6 hFG
    go_wp2_with fail
    refine(rneed_any c s5 [59] _ (by exact HI6.out.f [w2.heap.size] H.out) (by decide) (by decide)).mono ?_
    rintro e w7 hp
    obtain⟨rfl,x7,s7,hq7,hf,hi⟩:=hp
    have hLn:=HL6.out.keep (X:=[c.R,w2.heap.size]) (w':=w7) (Fr.trans frk hf.wide) (by first|(simp;done)|omega|(simp;omega))
    obtain⟨hT,HB7,HI7,HF7,hz7⟩:=IR.st [w2.heap.size] HB6.out HF6.out hf hi
    try simp at hz7
    have HD7:Hid (Blk w7 (w2.heap.size) 29 #[.string ⟨x2.toArray⟩,.slice p' (us.length+1) c',zN,zN,zN,zN]):=hid ((HD6.out.set 1 (.slice p' (us.length+1) c')).k hf)
    have HLn:=hid hLn
    clear hT hf hi hLn
    have hlj:=hq7.out.mu (Shr.expect _)
    have hle2:=hq5.out.mu Shr.name
    go_wp2_with fail
    go_roundw
    case rel=>exact⟨us ++ [x5],s7,p',c',by rw[List.length_append,rowsQ_snoc];exact HLn.out,HI7.out,HF7.out,(by first|(simp;done)|omega|(simp;omega)),(by rw[List.length_append];exact HD7.out),HB7.out,by omega,by simp;omega,HJ.out.more hq4.out hl4 hq5.out hq7.out⟩
    case measure=>rw[HI7.out.rMu,HI2.out.rMu];omega
  ·clear hp
   have hfk4:=hid hf
   obtain⟨hT,HB4,HI4,HF4,hz4⟩:=IR.st [w2.heap.size] HBR.out HF.out hf hi
   try simp at hz4
   have HD4:=hid (HDR.out.k hf)
   clear hT hf hi
   have HLI:=hid (HJ.out.stop hq4.out)
   have HLN:=hid (HL.out.keep hfk4.out (by simp;omega))
   clear HL HI2 HDR HBR HJ
   go_wp2_with fail
   obtain⟨wq,hwq⟩:∃ wq,wq=w4:=⟨_,rfl⟩
   clear hwq
   go_loopw [] (fun wr=>∃ (M:ModD) (si:RS) (pu:Option Addr) (cu:Nat) (pd:Option Addr) (cd:Nat) (pt:Option Addr) (ct:Nat) (pi:Option Addr) (ci:Nat) (pf:Option Addr) (cf:Nat),ModAt wr (w2.heap.size+1) M (.slice pu M.uses.length cu) (.slice pd M.datas.length cd) (.slice pt M.traits.length ct) (.slice pi M.impls.length ci) (.slice pf M.funcs.length cf)∧IR c si wr∧Fr [c.R] w wr∧w4.heap.size≤wr.heap.size∧Blk wr (w2.heap.size) 29 #[.string ⟨M.name.toArray⟩,.slice pu M.uses.length cu,.slice pd M.datas.length cd,.slice pt M.traits.length ct,.slice pi M.impls.length ci,.slice pf M.funcs.length cf]∧Blk wr (w.heap.size) 29 #[zS,zN,zN,zN,zN,zN]∧si.mu≤su.mu∧M.datas.length+M.traits.length+M.impls.length+M.funcs.length+si.mu≤6002∧NJ c.size n ⟨x2,us,[],[],[],[]⟩ su M si) (fun wr=>rMu c wr)
   case atStart=>exact⟨⟨x2,us,[],[],[],[]⟩,su,_,_,none,0,none,0,none,0,none,0,⟨HLN.out,.inl ⟨rfl,rfl,rfl⟩,.inl ⟨rfl,rfl,rfl⟩,.inl ⟨rfl,rfl,rfl⟩,.inl ⟨rfl,rfl,rfl⟩⟩,HI4.out,HF4.out,Nat.le_refl _,HD4.out,HB4.out,Nat.le_refl _,by (try simp);have:=HI4.out.mu_le;omega,NJ.start (by omega)⟩
   case round =>
    obtain⟨M,si,pu,cu,pd,cd,pt,ct,pi,ci,pf,cf,hM,hi,hf,hzz2,hD,hB,hle2,hn2,hJ⟩:=hrel
    have HMR:=hid hM
    have HIR:=hid hi
    have HFR:=hid hf
    have HDR2:=hid hD
    have HBR2:=hid hB
    have HNJ:=hid hJ
    clear hM hi hf hD hB hJ
    cases si with
    | dead er oo =>
     obtain⟨k,cap,ad,hb,ht,hk,he,hc⟩:=HIR.out.dcells
     have g3:=hb.cell 3
     simp at g3
     have hd:((er:Int) == 0)=false:=by simp;omega
     clear hb ht hk he hc
     go_wp2_with fail
     go_quiet (fail)
     generalize hwq:wr.drewN _=w8
     have HI8:Hid (IR c (RS.dead er oo) w8):=hid (by rw[← hwq];exact HIR.out.drewN _)
     have HF8:Hid (Fr [c.R] w w8):=hid (by rw[← hwq];exact HFR.out.drewN _)
     have HD8:=hid (hwq ▸ HDR2.out.drewN' _)
     have HB8:=hid (hwq ▸ HBR2.out.drewN' _)
     have HM8:Hid (ModAt w8 (w2.heap.size+1) M (.slice pu M.uses.length cu) (.slice pd M.datas.length cd) (.slice pt M.traits.length ct) (.slice pi M.impls.length ci) (.slice pf M.funcs.length cf)):=hid (by rw[← hwq];exact HMR.out.keep (X:=[]) ((Fr.refl _ _).drewN _) (by simp))
     have hz8:wr.heap.size≤w8.heap.size:=by rw[← hwq];exact Nat.le_refl _
     clear hwq
     clear g3 hd
     have HST:=hid (HNJ.out.stop0 rfl)
     have hlD:=HD8.out.lt
     go_wp2_with (first|(refine wpList_load_row rfl 29 _ rfl (w2.heap.size) rfl 29 _ (0,0) _ HD8.out Tryz.underlying29 rfl mod_size ?_)|(refine wpList_store_row rfl 29 _ _ rfl (w.heap.size) _ rfl rfl 29 _ (HB8.out.row [w2.heap.size]) mod_size rfl (by simp[Value.oneCell']) ?_))
     refine bodyPost_ret (results_cell_row (p:=2) rfl _ _ (w.heap.size) 29 _ (0,0) _ rfl (setRow_heap _ _ _ _ _ _ (HB8.out.row [w2.heap.size])) Tryz.underlying29 rfl mod_size) rfl ?_
     clear hlD
     exact RD.mk (M) (RS.dead er oo) (by unfold Px.module;refine .bind hq1.out<|.bind hq2.out ?_;refine .bind hq3.out<|.bind HLI.out ?_;exact HST.out) (HF8.out.jf [w2.heap.size,w.heap.size]) (HI8.out.f [w2.heap.size,w.heap.size] H.out) ⟨_,rfl,(rep_own (b:=w.heap.size) (mod_rep HM8.out (b:=(w2.heap.size+1)) (Nat.le_refl _)) (X:=[w.heap.size]) frk (by simp;omega) (by omega))⟩
    | live ts =>
     obtain⟨k,cap,ad,hb,ht,hk,hts,hc⟩:=HIR.out.cells
     have hRl:c.R<wr.heap.size:=HIR.out.lt.1
     have g0:=hb.cell 0
     have g1:=hb.cell 1
     have g3:=hb.cell 3
     simp at g0 g1 g3
     have h30:((0:Int) == 0)=true:=rfl
     cases ts with
     | nil =>
      have hkk:k=c.L.length:=by simpa using hk
      have hd:decide ((k:Int)<(c.L.length:Int))=false:=by simp;omega
      have hd2:decide (k<c.L.length)=false:=by simp;omega
      clear hb ht hk hts hc hkk
      go_wp2_with fail
      go_quiet (fail)
      generalize hwq:wr.drewN _=w9
      have HI9:Hid (IR c (RS.live []) w9):=hid (by rw[← hwq];exact HIR.out.drewN _)
      have HF9:Hid (Fr [c.R] w w9):=hid (by rw[← hwq];exact HFR.out.drewN _)
      have HD9:=hid (hwq ▸ HDR2.out.drewN' _)
      have HB9:=hid (hwq ▸ HBR2.out.drewN' _)
      have HM9:Hid (ModAt w9 (w2.heap.size+1) M (.slice pu M.uses.length cu) (.slice pd M.datas.length cd) (.slice pt M.traits.length ct) (.slice pi M.impls.length ci) (.slice pf M.funcs.length cf)):=hid (by rw[← hwq];exact HMR.out.keep (X:=[]) ((Fr.refl _ _).drewN _) (by simp))
      have hz9:wr.heap.size≤w9.heap.size:=by rw[← hwq];exact Nat.le_refl _
      clear hwq
      clear g0 g1 g3 hd hd2 h30
      have HST:=hid (HNJ.out.stop1)
      have hlD:=HD9.out.lt
      go_wp2_with (first|(refine wpList_load_row rfl 29 _ rfl (w2.heap.size) rfl 29 _ (0,0) _ HD9.out Tryz.underlying29 rfl mod_size ?_)|(refine wpList_store_row rfl 29 _ _ rfl (w.heap.size) _ rfl rfl 29 _ (HB9.out.row [w2.heap.size]) mod_size rfl (by simp[Value.oneCell']) ?_))
      refine bodyPost_ret (results_cell_row (p:=2) rfl _ _ (w.heap.size) 29 _ (0,0) _ rfl (setRow_heap _ _ _ _ _ _ (HB9.out.row [w2.heap.size])) Tryz.underlying29 rfl mod_size) rfl ?_
      clear hlD
      exact RD.mk (M) (RS.live []) (by unfold Px.module;refine .bind hq1.out<|.bind hq2.out ?_;refine .bind hq3.out<|.bind HLI.out ?_;exact HST.out) (HF9.out.jf [w2.heap.size,w.heap.size]) (HI9.out.f [w2.heap.size,w.heap.size] H.out) ⟨_,rfl,(rep_own (b:=w.heap.size) (mod_rep HM9.out (b:=(w2.heap.size+1)) (Nat.le_refl _)) (X:=[w.heap.size]) frk (by simp;omega) (by omega))⟩
     | cons t r =>
      obtain⟨rfl,hcap,c0,c1,c2,c3⟩:=hc t r rfl
      have hlt:k<c.L.length:=by simp at hk;omega
      have hd:decide ((k:Int)<(c.L.length:Int))=true:=by simp;omega
      have hd2:decide (k<c.L.length)=true:=by simp;omega
      clear hb ht hk hts hc c0 c1 c2 c3
      go_wp2_with fail
      go_quiet (fail)
      generalize hwq:wr.drewN _=w10
      have HI10:Hid (IR c (RS.live (t :: r)) w10):=hid (by rw[← hwq];exact HIR.out.drewN _)
      have HF10:Hid (Fr [c.R] w w10):=hid (by rw[← hwq];exact HFR.out.drewN _)
      have HD10:=hid (hwq ▸ HDR2.out.drewN' _)
      have HB10:=hid (hwq ▸ HBR2.out.drewN' _)
      have HM10:Hid (ModAt w10 (w2.heap.size+1) M (.slice pu M.uses.length cu) (.slice pd M.datas.length cd) (.slice pt M.traits.length ct) (.slice pi M.impls.length ci) (.slice pf M.funcs.length cf)):=hid (by rw[← hwq];exact HMR.out.keep (X:=[]) ((Fr.refl _ _).drewN _) (by simp))
      have hz10:wr.heap.size≤w10.heap.size:=by rw[← hwq];exact Nat.le_refl _
      clear hwq
      clear g0 g1 g3 hd hd2 h30 hlt hcap
      go_wp2_with fail
      refine(rat_same c (RS.live (t :: r)) _ (by exact HI10.out.f [w2.heap.size] H.out)).mono ?_
      rintro e w11 hp
      obtain⟨xo,rfl,hqo,hf,hi⟩:=hp
      have hM11:=HM10.out.keep (X:=[c.R,w2.heap.size]) (w':=w11) (Fr.trans frk hf.wide) (by first|(simp;done)|omega|(simp;omega))
      obtain⟨hT,HB11,HI11,HF11,hz11⟩:=IR.st [w2.heap.size] HB10.out HF10.out hf hi
      try simp at hz11
      have HD11:=hid (HD10.out.k hf)
      have HM11:=hid hM11
      clear hT hf hi hM11
      go_wp2_with fail
      have hlr:(RS.live r).mu<(RS.live (t :: r)).mu:=by simp[RS.mu]
      by_cases ht0:t.text=[100,97,116,97]
      ·have ht:=ht0
       refine(rnext_yes c t r [100,97,116,97] _ (by exact HI11.out.f [w2.heap.size] H.out) ht (by decide) (by decide)).mono ?_
       rintro e w12 hp
       obtain⟨rfl,hf,hi⟩:=hp
       have hM12:=HM11.out.keep (X:=[c.R,w2.heap.size]) (w':=w12) (Fr.trans frk hf.wide) (by first|(simp;done)|omega|(simp;omega))
       obtain⟨hT,HB12,HI12,HF12,hz12⟩:=IR.st [w2.heap.size] HB11.out HF11.out hf hi
       try simp at hz12
       have HD12:=hid (HD11.out.k hf)
       have HM12:=hid hM12
       clear hT hf hi hM12
       go_wp2_with fail
       obtain⟨i0,hinf,iz0,iz1,iz2⟩:=info_parts info_data
       have HINF:=hid hinf
       clear hinf
       have hlD:=HD12.out.lt
       obtain⟨d2,f2⟩:=HD12.out.df 2 (v:=.slice pd M.datas.length cd) rfl
       have hbw:(w2.heap.size+1)≤w12.heap.size:=by omega
       have hRb:c.R<(w2.heap.size+1):=by omega
       have HL:=hid HM12.out.d
       go_region_law (first|(refine step_append_list _ (by rfl) _ _ 24 (by rfl) ((w2.heap.size+1)) 45 i0 _ 5 80 Tryz.underlying24 HINF.out iz0 iz1 iz2 rfl (by decide) (.slice pd M.datas.length cd) (M.datas.length) 1 (rowsQ dataQ M.datas) (dataQ x13) (by rfl) G1.out ⟨w13.heap.size,0,none⟩ 1 [.string s13_0,.slice p13_1 n13_1 c13_1,.slice p13_2 n13_2 c13_2,.int .i64 i13_3,.int .i64 i13_4] (by rfl) (by decide) rfl G2.out G3.out (by omega) (by decide) g4 ?_;intro p' c' w14 hL14 hg14;have hown:∀ k,(.slice pd M.datas.length cd:Value).ownBlock=some k→(w2.heap.size+1)≤k:=(fun k e=>(HL.out.own k e).1);have HD14:=hid ((HD13.out.alloc _).grown hg14 (fun k e=>by have:=hown k e;omega));obtain⟨k14,m14⟩:=HD14.out.df 2 (v:=.slice pd M.datas.length cd) rfl;have HL14:=hid hL14;have HG14:=hid hg14;clear hL14 hg14)|(go_simp;go_at_call 27;refine(rdata_any c n xo (RS.live r) _ (by exact(HI12.out.f [] H.out)) (by omega)).mono ?_;rintro e w13 hp;obtain⟨v13,x13,s13,rfl,hq13,hf13,hi13,hv13⟩:=hp;have hx13:Fr [c.R] w12 w13:=Fr.trans frk hf13;obtain⟨cs,rfl,hrep0⟩:=hv13;have hrep:Rep w13 (fun k=>w12.heap.size≤k) (dataQ x13) cs:=hrep0;obtain⟨s13_0,p13_1,n13_1,c13_1,p13_2,n13_2,c13_2,i13_3,i13_4,rfl⟩:=hrep.c_dataQ;have HD13:=hid (HD12.out.k hx13);have k13:=HD13.out.at 2 (v:=.slice pd M.datas.length cd) rfl;have hlx13:=HD13.out.lt;obtain⟨g1,g2,g3,g4⟩:=append_ready (news:=[.string s13_0,.slice p13_1 n13_1 c13_1,.slice p13_2 n13_2 c13_2,.int .i64 i13_3,.int .i64 i13_4]) HL.out (Nat.le_refl _) hx13 hRb hbw hrep 45;have G1:=hid g1;have G2:=hid g2;have G3:=hid g3;have HX13:=hid hx13;have HI13c:=hid hi13;have hh13:w12.heap.size≤w13.heap.size:=hx13.size;clear g1 g2 g3 hrep hx13 hi13 hf13))
       all_goals
        have hFG:FrB [c.R] ((w2.heap.size+1)) w12 w14:=frb_grown (HX13.out.alloc (.cells #[.string s13_0,.slice p13_1 n13_1 c13_1,.slice p13_2 n13_2 c13_2,.int .i64 i13_3,.int .i64 i13_4] 45)) HG14.out hown
        have hz14:w12.heap.size≤w14.heap.size:=hFG.size
        have HI14:Hid (IR c s13 w14):=hid ((HI13c.out.alloc _).grown H.out HG14.out (fun k e=>by have:=hown k e;omega))
        have HB14:=hid (((HB12.out.k HX13.out).alloc _).grown HG14.out (fun k e=>by have:=hown k e;omega))
        have HF14:Hid (Fr [c.R] w w14):=hid (HF12.out.frb hFG (by omega))
        have HM14:Hid (ModAt w14 (w2.heap.size+1) { M with datas:=M.datas ++ [x13] } (.slice pu M.uses.length cu) (.slice p' (M.datas.length+1) c') (.slice pt M.traits.length ct) (.slice pi M.impls.length ci) (.slice pf M.funcs.length cf)):=hid (ModAt.moreD (HM12.out.keep (X:=[c.R]) (HX13.out.alloc (.cells #[.string s13_0,.slice p13_1 n13_1 c13_1,.slice p13_2 n13_2 c13_2,.int .i64 i13_3,.int .i64 i13_4] 45)) (by first|(simp;done)|omega|(simp;omega))) HG14.out HL14.out)
        clear k14 m14 hFG HL
        go_wp2_with fail
        obtain⟨HN2,hlt2⟩:=HNJ.out.more (item_data ht hqo.out hq13.out)
        go_roundw
        case rel=>exact⟨{ M with datas:=M.datas ++ [x13] },s13,_,_,_,_,_,_,_,_,_,_,by rw[List.length_append];exact HM14.out.keep (X:=[w2.heap.size]) frk (by first|(simp;done)|omega|(simp;omega)),HI14.out.f [w2.heap.size] H.out,(HF14.out.jf [w2.heap.size]),(by first|(simp;done)|omega|(simp;omega)),by rw[List.length_append];exact HD14.out.set 2 _,HB14.out.f [w2.heap.size],by omega,(by first|omega|(simp;omega)|(simp[RS.mu];omega)),HN2⟩
        case measure=>rw[IR.rMu (s:=s13) (HI14.out.f [w2.heap.size] H.out),HIR.out.rMu];omega
      by_cases ht1:t.text=[116,114,97,105,116]
      ·have ht:=ht1
       refine(rnext_no c (RS.live (t :: r)) [100,97,116,97] _ (by exact HI11.out.f [w2.heap.size] H.out) (by decide) (by decide) (fun ts e=>by cases e;rw[show Px.word (t :: r)=_ from ht];decide)).mono ?_
       rintro e w15 hp
       obtain⟨rfl,hf,hi⟩:=hp
       have hM15:=HM11.out.keep (X:=[c.R,w2.heap.size]) (w':=w15) (Fr.trans frk hf.wide) (by first|(simp;done)|omega|(simp;omega))
       obtain⟨hT,HB15,HI15,HF15,hz15⟩:=IR.st [w2.heap.size] HB11.out HF11.out hf hi
       try simp at hz15
       have HD15:=hid (HD11.out.k hf)
       have HM15:=hid hM15
       clear hT hf hi hM15
       go_wp2_with fail
       refine(rnext_yes c t r [116,114,97,105,116] _ (by exact HI15.out.f [w2.heap.size] H.out) ht (by decide) (by decide)).mono ?_
       rintro e w16 hp
       obtain⟨rfl,hf,hi⟩:=hp
       have hM16:=HM15.out.keep (X:=[c.R,w2.heap.size]) (w':=w16) (Fr.trans frk hf.wide) (by first|(simp;done)|omega|(simp;omega))
       obtain⟨hT,HB16,HI16,HF16,hz16⟩:=IR.st [w2.heap.size] HB15.out HF15.out hf hi
       try simp at hz16
       have HD16:=hid (HD15.out.k hf)
       have HM16:=hid hM16
       clear hT hf hi hM16
       go_wp2_with fail
       obtain⟨i0,hinf,iz0,iz1,iz2⟩:=info_parts info_trait
       have HINF:=hid hinf
       clear hinf
       have hlD:=HD16.out.lt
       obtain⟨d3,f3⟩:=HD16.out.df 3 (v:=.slice pt M.traits.length ct) rfl
       have hbw:(w2.heap.size+1)≤w16.heap.size:=by omega
       have hRb:c.R<(w2.heap.size+1):=by omega
       have HL:=hid HM16.out.t
       go_region_law (first|(refine step_append_list _ (by rfl) _ _ 25 (by rfl) ((w2.heap.size+1)) 89 i0 _ 2 24 Tryz.underlying25 HINF.out iz0 iz1 iz2 rfl (by decide) (.slice pt M.traits.length ct) (M.traits.length) 1 (rowsQ traitQ M.traits) (traitQ (⟨x17,xo⟩:TraitD)) (by rfl) G1.out ⟨w17.heap.size,0,none⟩ 1 [.string ⟨x17.toArray⟩,.int .i64 xo] (by rfl) (by decide) rfl G2.out G3.out (by omega) (by decide) g4 ?_;intro p' c' w18 hL18 hg18;have hown:∀ k,(.slice pt M.traits.length ct:Value).ownBlock=some k→(w2.heap.size+1)≤k:=(fun k e=>(HL.out.own k e).1);have HD18:=hid ((HD17.out.alloc _).grown hg18 (fun k e=>by have:=hown k e;omega));obtain⟨k18,m18⟩:=HD18.out.df 3 (v:=.slice pt M.traits.length ct) rfl;have HL18:=hid hL18;have HG18:=hid hg18;clear hL18 hg18)|(go_simp;go_at_call 24;refine(rname_any c (RS.live r) _ (by exact(HI16.out.f [] H.out))).mono ?_;rintro e w17 hp;obtain⟨v17,x17,s17,rfl,hq17,hf17,hi17,hv17⟩:=hp;have hx17:Fr [c.R] w16 w17:=Fr.trans frk hf17;obtain rfl:=hv17;have hrep:Rep w17 (fun k=>w16.heap.size≤k) (traitQ (⟨x17,xo⟩:TraitD)) [.string ⟨x17.toArray⟩,.int .i64 xo]:=rep_str.2 ⟨_,rfl,rep_int.2 ⟨_,rfl,rep_nil.2 rfl⟩⟩;have HD17:=hid (HD16.out.k hx17);have k17:=HD17.out.at 3 (v:=.slice pt M.traits.length ct) rfl;have hlx17:=HD17.out.lt;obtain⟨g1,g2,g3,g4⟩:=append_ready (news:=[.string ⟨x17.toArray⟩,.int .i64 xo]) HL.out (Nat.le_refl _) hx17 hRb hbw hrep 89;have G1:=hid g1;have G2:=hid g2;have G3:=hid g3;have HX17:=hid hx17;have HI17c:=hid hi17;have hh17:w16.heap.size≤w17.heap.size:=hx17.size;clear g1 g2 g3 hrep hx17 hi17 hf17))
       all_goals
        have hFG:FrB [c.R] ((w2.heap.size+1)) w16 w18:=frb_grown (HX17.out.alloc (.cells #[.string ⟨x17.toArray⟩,.int .i64 xo] 89)) HG18.out hown
        have hz18:w16.heap.size≤w18.heap.size:=hFG.size
        have HI18:Hid (IR c s17 w18):=hid ((HI17c.out.alloc _).grown H.out HG18.out (fun k e=>by have:=hown k e;omega))
        have HB18:=hid (((HB16.out.k HX17.out).alloc _).grown HG18.out (fun k e=>by have:=hown k e;omega))
        have HF18:Hid (Fr [c.R] w w18):=hid (HF16.out.frb hFG (by omega))
        have HM18:Hid (ModAt w18 (w2.heap.size+1) { M with traits:=M.traits ++ [(⟨x17,xo⟩:TraitD)] } (.slice pu M.uses.length cu) (.slice pd M.datas.length cd) (.slice p' (M.traits.length+1) c') (.slice pi M.impls.length ci) (.slice pf M.funcs.length cf)):=hid (ModAt.moreT (HM16.out.keep (X:=[c.R]) (HX17.out.alloc (.cells #[.string ⟨x17.toArray⟩,.int .i64 xo] 89)) (by first|(simp;done)|omega|(simp;omega))) HG18.out HL18.out)
        clear k18 m18 hFG HL
        go_wp2_with fail
        refine(rneed_any c s17 [59] _ (by exact HI18.out.f [w2.heap.size] H.out) (by decide) (by decide)).mono ?_
        rintro e w19 hp
        obtain⟨rfl,x19,s19,hq19,hf,hi⟩:=hp
        have hM19:=HM18.out.keep (X:=[c.R,w2.heap.size]) (w':=w19) (Fr.trans frk hf.wide) (by first|(simp;done)|omega|(simp;omega))
        obtain⟨hT,HB19,HI19,HF19,hz19⟩:=IR.st [w2.heap.size] HB18.out HF18.out hf hi
        try simp at hz19
        have HD19:Hid (Blk w19 (w2.heap.size) 29 #[.string ⟨M.name.toArray⟩,.slice pu M.uses.length cu,.slice pd M.datas.length cd,.slice p' (M.traits.length+1) c',.slice pi M.impls.length ci,.slice pf M.funcs.length cf]):=hid ((HD18.out.set 3 (.slice p' (M.traits.length+1) c')).k hf)
        have HM19:=hid hM19
        clear hT hf hi hM19
        go_wp2_with fail
        obtain⟨HN2,hlt2⟩:=HNJ.out.more (item_trait ht hqo.out hq17.out hq19.out)
        go_roundw
        case rel=>exact⟨{ M with traits:=M.traits ++ [(⟨x17,xo⟩:TraitD)] },s19,_,_,_,_,_,_,_,_,_,_,by rw[List.length_append];exact HM19.out,HI19.out.f [w2.heap.size] H.out,(HF19.out.jf [w2.heap.size]),(by first|(simp;done)|omega|(simp;omega)),by rw[List.length_append];exact HD19.out,HB19.out.f [w2.heap.size],by omega,(by first|omega|(simp;omega)|(simp[RS.mu];omega)),HN2⟩
        case measure=>rw[IR.rMu (s:=s19) (HI19.out.f [w2.heap.size] H.out),HIR.out.rMu];omega
      by_cases ht2:t.text=[105,109,112,108]
      ·have ht:=ht2
       refine(rnext_no c (RS.live (t :: r)) [100,97,116,97] _ (by exact HI11.out.f [w2.heap.size] H.out) (by decide) (by decide) (fun ts e=>by cases e;rw[show Px.word (t :: r)=_ from ht];decide)).mono ?_
       rintro e w20 hp
       obtain⟨rfl,hf,hi⟩:=hp
       have hM20:=HM11.out.keep (X:=[c.R,w2.heap.size]) (w':=w20) (Fr.trans frk hf.wide) (by first|(simp;done)|omega|(simp;omega))
       obtain⟨hT,HB20,HI20,HF20,hz20⟩:=IR.st [w2.heap.size] HB11.out HF11.out hf hi
       try simp at hz20
       have HD20:=hid (HD11.out.k hf)
       have HM20:=hid hM20
       clear hT hf hi hM20
       go_wp2_with fail
       refine(rnext_no c (RS.live (t :: r)) [116,114,97,105,116] _ (by exact HI20.out.f [w2.heap.size] H.out) (by decide) (by decide) (fun ts e=>by cases e;rw[show Px.word (t :: r)=_ from ht];decide)).mono ?_
       rintro e w21 hp
       obtain⟨rfl,hf,hi⟩:=hp
       have hM21:=HM20.out.keep (X:=[c.R,w2.heap.size]) (w':=w21) (Fr.trans frk hf.wide) (by first|(simp;done)|omega|(simp;omega))
       obtain⟨hT,HB21,HI21,HF21,hz21⟩:=IR.st [w2.heap.size] HB20.out HF20.out hf hi
       try simp at hz21
       have HD21:=hid (HD20.out.k hf)
       have HM21:=hid hM21
       clear hT hf hi hM21
       go_wp2_with fail
       refine(rnext_yes c t r [105,109,112,108] _ (by exact HI21.out.f [w2.heap.size] H.out) ht (by decide) (by decide)).mono ?_
       rintro e w22 hp
       obtain⟨rfl,hf,hi⟩:=hp
       have hM22:=HM21.out.keep (X:=[c.R,w2.heap.size]) (w':=w22) (Fr.trans frk hf.wide) (by first|(simp;done)|omega|(simp;omega))
       obtain⟨hT,HB22,HI22,HF22,hz22⟩:=IR.st [w2.heap.size] HB21.out HF21.out hf hi
       try simp at hz22
       have HD22:=hid (HD21.out.k hf)
       have HM22:=hid hM22
       clear hT hf hi hM22
       go_wp2_with fail
       obtain⟨i0,hinf,iz0,iz1,iz2⟩:=info_parts info_impl
       have HINF:=hid hinf
       clear hinf
       have hlD:=HD22.out.lt
       obtain⟨d4,f4⟩:=HD22.out.df 4 (v:=.slice pi M.impls.length ci) rfl
       have hbw:(w2.heap.size+1)≤w22.heap.size:=by omega
       have hRb:c.R<(w2.heap.size+1):=by omega
       have HL:=hid HM22.out.i
       go_region_law (first|(refine step_append_list _ (by rfl) _ _ 26 (by rfl) ((w2.heap.size+1)) 91 i0 _ 8 136 Tryz.underlying26 HINF.out iz0 iz1 iz2 rfl (by decide) (.slice pi M.impls.length ci) (M.impls.length) 1 (rowsQ implQ M.impls) (implQ x23) (by rfl) G1.out ⟨w23.heap.size,0,none⟩ 1 [.string s23_0,.slice p23_1 n23_1 c23_1,.slice p23_2 n23_2 c23_2,.string s23_3,.slice p23_4 n23_4 c23_4,.int .i64 i23_5,.string s23_6,.int .i64 i23_7] (by rfl) (by decide) rfl G2.out G3.out (by omega) (by decide) g4 ?_;intro p' c' w24 hL24 hg24;have hown:∀ k,(.slice pi M.impls.length ci:Value).ownBlock=some k→(w2.heap.size+1)≤k:=(fun k e=>(HL.out.own k e).1);have HD24:=hid ((HD23.out.alloc _).grown hg24 (fun k e=>by have:=hown k e;omega));obtain⟨k24,m24⟩:=HD24.out.df 4 (v:=.slice pi M.impls.length ci) rfl;have HL24:=hid hL24;have HG24:=hid hg24;clear hL24 hg24)|(go_simp;go_at_call 28;refine(rimpl_any c xo (RS.live r) _ (by exact(HI22.out.f [] H.out)) n (by omega)).mono ?_;rintro e w23 hp;obtain⟨v23,x23,s23,rfl,hq23,hf23,hi23,hv23⟩:=hp;have hx23:Fr [c.R] w22 w23:=Fr.trans frk hf23;obtain⟨cs,rfl,hrep0⟩:=hv23;have hrep:Rep w23 (fun k=>w22.heap.size≤k) (implQ x23) cs:=hrep0;obtain⟨s23_0,p23_1,n23_1,c23_1,p23_2,n23_2,c23_2,s23_3,p23_4,n23_4,c23_4,i23_5,s23_6,i23_7,rfl⟩:=hrep.c_implQ;have HD23:=hid (HD22.out.k hx23);have k23:=HD23.out.at 4 (v:=.slice pi M.impls.length ci) rfl;have hlx23:=HD23.out.lt;obtain⟨g1,g2,g3,g4⟩:=append_ready (news:=[.string s23_0,.slice p23_1 n23_1 c23_1,.slice p23_2 n23_2 c23_2,.string s23_3,.slice p23_4 n23_4 c23_4,.int .i64 i23_5,.string s23_6,.int .i64 i23_7]) HL.out (Nat.le_refl _) hx23 hRb hbw hrep 91;have G1:=hid g1;have G2:=hid g2;have G3:=hid g3;have HX23:=hid hx23;have HI23c:=hid hi23;have hh23:w22.heap.size≤w23.heap.size:=hx23.size;clear g1 g2 g3 hrep hx23 hi23 hf23))
       all_goals
        have hFG:FrB [c.R] ((w2.heap.size+1)) w22 w24:=frb_grown (HX23.out.alloc (.cells #[.string s23_0,.slice p23_1 n23_1 c23_1,.slice p23_2 n23_2 c23_2,.string s23_3,.slice p23_4 n23_4 c23_4,.int .i64 i23_5,.string s23_6,.int .i64 i23_7] 91)) HG24.out hown
        have hz24:w22.heap.size≤w24.heap.size:=hFG.size
        have HI24:Hid (IR c s23 w24):=hid ((HI23c.out.alloc _).grown H.out HG24.out (fun k e=>by have:=hown k e;omega))
        have HB24:=hid (((HB22.out.k HX23.out).alloc _).grown HG24.out (fun k e=>by have:=hown k e;omega))
        have HF24:Hid (Fr [c.R] w w24):=hid (HF22.out.frb hFG (by omega))
        have HM24:Hid (ModAt w24 (w2.heap.size+1) { M with impls:=M.impls ++ [x23] } (.slice pu M.uses.length cu) (.slice pd M.datas.length cd) (.slice pt M.traits.length ct) (.slice p' (M.impls.length+1) c') (.slice pf M.funcs.length cf)):=hid (ModAt.moreI (HM22.out.keep (X:=[c.R]) (HX23.out.alloc (.cells #[.string s23_0,.slice p23_1 n23_1 c23_1,.slice p23_2 n23_2 c23_2,.string s23_3,.slice p23_4 n23_4 c23_4,.int .i64 i23_5,.string s23_6,.int .i64 i23_7] 91)) (by first|(simp;done)|omega|(simp;omega))) HG24.out HL24.out)
        clear k24 m24 hFG HL
        go_wp2_with fail
        obtain⟨HN2,hlt2⟩:=HNJ.out.more (item_impl ht hqo.out hq23.out)
        go_roundw
        case rel=>exact⟨{ M with impls:=M.impls ++ [x23] },s23,_,_,_,_,_,_,_,_,_,_,by rw[List.length_append];exact HM24.out.keep (X:=[w2.heap.size]) frk (by first|(simp;done)|omega|(simp;omega)),HI24.out.f [w2.heap.size] H.out,(HF24.out.jf [w2.heap.size]),(by first|(simp;done)|omega|(simp;omega)),by rw[List.length_append];exact HD24.out.set 4 _,HB24.out.f [w2.heap.size],by omega,(by first|omega|(simp;omega)|(simp[RS.mu];omega)),HN2⟩
        case measure=>rw[IR.rMu (s:=s23) (HI24.out.f [w2.heap.size] H.out),HIR.out.rMu];omega
      by_cases ht3:t.text=[102,110]
      ·have ht:=ht3
       refine(rnext_no c (RS.live (t :: r)) [100,97,116,97] _ (by exact HI11.out.f [w2.heap.size] H.out) (by decide) (by decide) (fun ts e=>by cases e;rw[show Px.word (t :: r)=_ from ht];decide)).mono ?_
       rintro e w25 hp
       obtain⟨rfl,hf,hi⟩:=hp
       have hM25:=HM11.out.keep (X:=[c.R,w2.heap.size]) (w':=w25) (Fr.trans frk hf.wide) (by first|(simp;done)|omega|(simp;omega))
       obtain⟨hT,HB25,HI25,HF25,hz25⟩:=IR.st [w2.heap.size] HB11.out HF11.out hf hi
       try simp at hz25
       have HD25:=hid (HD11.out.k hf)
       have HM25:=hid hM25
       clear hT hf hi hM25
       go_wp2_with fail
       refine(rnext_no c (RS.live (t :: r)) [116,114,97,105,116] _ (by exact HI25.out.f [w2.heap.size] H.out) (by decide) (by decide) (fun ts e=>by cases e;rw[show Px.word (t :: r)=_ from ht];decide)).mono ?_
       rintro e w26 hp
       obtain⟨rfl,hf,hi⟩:=hp
       have hM26:=HM25.out.keep (X:=[c.R,w2.heap.size]) (w':=w26) (Fr.trans frk hf.wide) (by first|(simp;done)|omega|(simp;omega))
       obtain⟨hT,HB26,HI26,HF26,hz26⟩:=IR.st [w2.heap.size] HB25.out HF25.out hf hi
       try simp at hz26
       have HD26:=hid (HD25.out.k hf)
       have HM26:=hid hM26
       clear hT hf hi hM26
       go_wp2_with fail
       refine(rnext_no c (RS.live (t :: r)) [105,109,112,108] _ (by exact HI26.out.f [w2.heap.size] H.out) (by decide) (by decide) (fun ts e=>by cases e;rw[show Px.word (t :: r)=_ from ht];decide)).mono ?_
       rintro e w27 hp
       obtain⟨rfl,hf,hi⟩:=hp
       have hM27:=HM26.out.keep (X:=[c.R,w2.heap.size]) (w':=w27) (Fr.trans frk hf.wide) (by first|(simp;done)|omega|(simp;omega))
       obtain⟨hT,HB27,HI27,HF27,hz27⟩:=IR.st [w2.heap.size] HB26.out HF26.out hf hi
       try simp at hz27
       have HD27:=hid (HD26.out.k hf)
       have HM27:=hid hM27
       clear hT hf hi hM27
       go_wp2_with fail
       refine(rnext_yes c t r [102,110] _ (by exact HI27.out.f [w2.heap.size] H.out) ht (by decide) (by decide)).mono ?_
       rintro e w28 hp
       obtain⟨rfl,hf,hi⟩:=hp
       have hM28:=HM27.out.keep (X:=[c.R,w2.heap.size]) (w':=w28) (Fr.trans frk hf.wide) (by first|(simp;done)|omega|(simp;omega))
       obtain⟨hT,HB28,HI28,HF28,hz28⟩:=IR.st [w2.heap.size] HB27.out HF27.out hf hi
       try simp at hz28
       have HD28:=hid (HD27.out.k hf)
       have HM28:=hid hM28
       clear hT hf hi hM28
       go_wp2_with fail
       obtain⟨i0,hinf,iz0,iz1,iz2⟩:=info_parts info_func
       have HINF:=hid hinf
       clear hinf
       have hlD:=HD28.out.lt
       obtain⟨d5,f5⟩:=HD28.out.df 5 (v:=.slice pf M.funcs.length cf) rfl
       have hbw:(w2.heap.size+1)≤w28.heap.size:=by omega
       have hRb:c.R<(w2.heap.size+1):=by omega
       have HL:=hid HM28.out.f
       go_region_law (first|(refine step_append_list _ (by rfl) _ _ 27 (by rfl) ((w2.heap.size+1)) 42 i0 _ 10 192 Tryz.underlying27 HINF.out iz0 iz1 iz2 rfl (by decide) (.slice pf M.funcs.length cf) (M.funcs.length) 1 (rowsQ funcQ M.funcs) (funcQ x29) (by rfl) G1.out ⟨w29.heap.size,0,none⟩ 1 [.string s29_0,.slice p29_1 n29_1 c29_1,.slice p29_2 n29_2 c29_2,.slice p29_3 n29_3 c29_3,.slice p29_4 n29_4 c29_4,.string s29_5,.slice p29_6 n29_6 c29_6,.int .i64 i29_7,.slice p29_8 n29_8 c29_8,.int .i64 i29_9] (by rfl) (by decide) rfl G2.out G3.out (by omega) (by decide) g4 ?_;intro p' c' w30 hL30 hg30;have hown:∀ k,(.slice pf M.funcs.length cf:Value).ownBlock=some k→(w2.heap.size+1)≤k:=(fun k e=>(HL.out.own k e).1);have HD30:=hid ((HD29.out.alloc _).grown hg30 (fun k e=>by have:=hown k e;omega));obtain⟨k30,m30⟩:=HD30.out.df 5 (v:=.slice pf M.funcs.length cf) rfl;have HL30:=hid hL30;have HG30:=hid hg30;clear hL30 hg30)|(go_simp;go_at_call 29;refine(rfunction_any c n xo (RS.live r) _ (by exact(HI28.out.f [] H.out)) (n+1) _ (stmt_RL c n) (strict_stmtF c.size n n) (shr_stmtF c.size n n) (by omega) (by omega)).mono ?_;rintro e w29 hp;obtain⟨v29,x29,s29,rfl,hq29,hf29,hi29,hv29⟩:=hp;have hx29:Fr [c.R] w28 w29:=Fr.trans frk hf29;obtain⟨cs,rfl,hrep0⟩:=hv29;have hrep:Rep w29 (fun k=>w28.heap.size≤k) (funcQ x29) cs:=hrep0;obtain⟨s29_0,p29_1,n29_1,c29_1,p29_2,n29_2,c29_2,p29_3,n29_3,c29_3,p29_4,n29_4,c29_4,s29_5,p29_6,n29_6,c29_6,i29_7,p29_8,n29_8,c29_8,i29_9,rfl⟩:=hrep.c_funcQ;have HD29:=hid (HD28.out.k hx29);have k29:=HD29.out.at 5 (v:=.slice pf M.funcs.length cf) rfl;have hlx29:=HD29.out.lt;obtain⟨g1,g2,g3,g4⟩:=append_ready (news:=[.string s29_0,.slice p29_1 n29_1 c29_1,.slice p29_2 n29_2 c29_2,.slice p29_3 n29_3 c29_3,.slice p29_4 n29_4 c29_4,.string s29_5,.slice p29_6 n29_6 c29_6,.int .i64 i29_7,.slice p29_8 n29_8 c29_8,.int .i64 i29_9]) HL.out (Nat.le_refl _) hx29 hRb hbw hrep 42;have G1:=hid g1;have G2:=hid g2;have G3:=hid g3;have HX29:=hid hx29;have HI29c:=hid hi29;have hh29:w28.heap.size≤w29.heap.size:=hx29.size;clear g1 g2 g3 hrep hx29 hi29 hf29))
       all_goals
        have hFG:FrB [c.R] ((w2.heap.size+1)) w28 w30:=frb_grown (HX29.out.alloc (.cells #[.string s29_0,.slice p29_1 n29_1 c29_1,.slice p29_2 n29_2 c29_2,.slice p29_3 n29_3 c29_3,.slice p29_4 n29_4 c29_4,.string s29_5,.slice p29_6 n29_6 c29_6,.int .i64 i29_7,.slice p29_8 n29_8 c29_8,.int .i64 i29_9] 42)) HG30.out hown
        have hz30:w28.heap.size≤w30.heap.size:=hFG.size
        have HI30:Hid (IR c s29 w30):=hid ((HI29c.out.alloc _).grown H.out HG30.out (fun k e=>by have:=hown k e;omega))
        have HB30:=hid (((HB28.out.k HX29.out).alloc _).grown HG30.out (fun k e=>by have:=hown k e;omega))
        have HF30:Hid (Fr [c.R] w w30):=hid (HF28.out.frb hFG (by omega))
        have HM30:Hid (ModAt w30 (w2.heap.size+1) { M with funcs:=M.funcs ++ [x29] } (.slice pu M.uses.length cu) (.slice pd M.datas.length cd) (.slice pt M.traits.length ct) (.slice pi M.impls.length ci) (.slice p' (M.funcs.length+1) c')):=hid (ModAt.moreF (HM28.out.keep (X:=[c.R]) (HX29.out.alloc (.cells #[.string s29_0,.slice p29_1 n29_1 c29_1,.slice p29_2 n29_2 c29_2,.slice p29_3 n29_3 c29_3,.slice p29_4 n29_4 c29_4,.string s29_5,.slice p29_6 n29_6 c29_6,.int .i64 i29_7,.slice p29_8 n29_8 c29_8,.int .i64 i29_9] 42)) (by first|(simp;done)|omega|(simp;omega))) HG30.out HL30.out)
        clear k30 m30 hFG HL
        go_wp2_with fail
        obtain⟨HN2,hlt2⟩:=HNJ.out.more (item_func ht hqo.out (refF_eq c.size n xo ▸ hq29.out))
        go_roundw
        case rel=>exact⟨{ M with funcs:=M.funcs ++ [x29] },s29,_,_,_,_,_,_,_,_,_,_,by rw[List.length_append];exact HM30.out.keep (X:=[w2.heap.size]) frk (by first|(simp;done)|omega|(simp;omega)),HI30.out.f [w2.heap.size] H.out,(HF30.out.jf [w2.heap.size]),(by first|(simp;done)|omega|(simp;omega)),by rw[List.length_append];exact HD30.out.set 5 _,HB30.out.f [w2.heap.size],by omega,(by first|omega|(simp;omega)|(simp[RS.mu];omega)),HN2⟩
        case measure=>rw[IR.rMu (s:=s29) (HI30.out.f [w2.heap.size] H.out),HIR.out.rMu];omega
      refine(rnext_no c (RS.live (t :: r)) [100,97,116,97] _ (by exact HI11.out.f [w2.heap.size] H.out) (by decide) (by decide) (fun ts e=>by cases e;exact ht0)).mono ?_
      rintro e w31 hp
      obtain⟨rfl,hf,hi⟩:=hp
      have hM31:=HM11.out.keep (X:=[c.R,w2.heap.size]) (w':=w31) (Fr.trans frk hf.wide) (by first|(simp;done)|omega|(simp;omega))
      obtain⟨hT,HB31,HI31,HF31,hz31⟩:=IR.st [w2.heap.size] HB11.out HF11.out hf hi
      try simp at hz31
      have HD31:=hid (HD11.out.k hf)
      have HM31:=hid hM31
      clear hT hf hi hM31
      go_wp2_with fail
      refine(rnext_no c (RS.live (t :: r)) [116,114,97,105,116] _ (by exact HI31.out.f [w2.heap.size] H.out) (by decide) (by decide) (fun ts e=>by cases e;exact ht1)).mono ?_
      rintro e w32 hp
      obtain⟨rfl,hf,hi⟩:=hp
      have hM32:=HM31.out.keep (X:=[c.R,w2.heap.size]) (w':=w32) (Fr.trans frk hf.wide) (by first|(simp;done)|omega|(simp;omega))
      obtain⟨hT,HB32,HI32,HF32,hz32⟩:=IR.st [w2.heap.size] HB31.out HF31.out hf hi
      try simp at hz32
      have HD32:=hid (HD31.out.k hf)
      have HM32:=hid hM32
      clear hT hf hi hM32
      go_wp2_with fail
      refine(rnext_no c (RS.live (t :: r)) [105,109,112,108] _ (by exact HI32.out.f [w2.heap.size] H.out) (by decide) (by decide) (fun ts e=>by cases e;exact ht2)).mono ?_
      rintro e w33 hp
      obtain⟨rfl,hf,hi⟩:=hp
      have hM33:=HM32.out.keep (X:=[c.R,w2.heap.size]) (w':=w33) (Fr.trans frk hf.wide) (by first|(simp;done)|omega|(simp;omega))
      obtain⟨hT,HB33,HI33,HF33,hz33⟩:=IR.st [w2.heap.size] HB32.out HF32.out hf hi
      try simp at hz33
      have HD33:=hid (HD32.out.k hf)
      have HM33:=hid hM33
      clear hT hf hi hM33
      go_wp2_with fail
      refine(rnext_no c (RS.live (t :: r)) [102,110] _ (by exact HI33.out.f [w2.heap.size] H.out) (by decide) (by decide) (fun ts e=>by cases e;exact ht3)).mono ?_
      rintro e w34 hp
      obtain⟨rfl,hf,hi⟩:=hp
      have hM34:=HM33.out.keep (X:=[c.R,w2.heap.size]) (w':=w34) (Fr.trans frk hf.wide) (by first|(simp;done)|omega|(simp;omega))
      obtain⟨hT,HB34,HI34,HF34,hz34⟩:=IR.st [w2.heap.size] HB33.out HF33.out hf hi
      try simp at hz34
      have HD34:=hid (HD33.out.k hf)
      have HM34:=hid hM34
      clear hT hf hi hM34
      go_wp2_with fail
      refine(rfail_any c (RS.live (t :: r)) _ (by exact HI34.out.f [w2.heap.size] H.out)).mono ?_
      rintro e w35 hp
      obtain⟨rfl,hf,s35,hi,hq35a,hq35b⟩:=hp
      obtain rfl:=hq35a _ rfl
      have hM35:=HM34.out.keep (X:=[c.R,w2.heap.size]) (w':=w35) (Fr.trans frk hf.wide) (by first|(simp;done)|omega|(simp;omega))
      obtain⟨hT,HB35,HI35,HF35,hz35⟩:=IR.st [w2.heap.size] HB34.out HF34.out hf hi
      try simp at hz35
      have HD35:=hid (HD34.out.k hf)
      have HM35:=hid hM35
      clear hT hf hi hM35
      go_wp2_with fail
      obtain⟨HN2,hlt2⟩:=HNJ.out.more (item_none (by simp[itW,ht0,ht1,ht2,ht3]))
      go_roundw
      case rel=>exact⟨M,_,_,_,_,_,_,_,_,_,_,_,HM35.out,HI35.out.f [w2.heap.size] H.out,(HF35.out.jf [w2.heap.size]),(by first|(simp;done)|omega|(simp;omega)),HD35.out,HB35.out.f [w2.heap.size],by omega,(by first|omega|(simp;omega)|(simp[RS.mu];omega)),HN2⟩
      case measure=>rw[IR.rMu (s:=_) (HI35.out.f [w2.heap.size] H.out),HIR.out.rMu];omega
end Go.Proofs.YtghohohagbbajaaGreatDoor
