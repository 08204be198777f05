/- part of the proof -/
import Derived.Test.YtghohohagbbajaaGreatDoorYKC
import Derived.Test.YtghohohagbbajaaGreatDoorYK13
import Derived.Deep.RegionLaw
import Derived.Test.YtghohohagbbajaaGreatDoorYBB
set_option linter.unusedVariables false
set_option linter.unusedSimpArgs false
set_option linter.unusedSectionVars false
namespace Go.Proofs.YtghohohagbbajaaGreatDoor
open Go.RowKit Go.Lib
open Lx (Tk)
open Px (Txt TyE VarD DataD TraitD BoundD ImplD ArgD ExprD StmtD ArmD FuncD ModD)
theorem IR.sane {c:RCtx} {s:RS} {w:World} (h:IR c s w):∀ t r,s=.live (t :: r)→t.kind=2→t.text ∉ Words:=by
 rintro t r rfl h2 hm
 rcases h.kinds t (h.mem t (by simp)) _ hm rfl with ⟨h3,_⟩|⟨h3,_⟩ <;> omega
theorem rel_unpl {sz n:Nat} {β:Type} {f:ExprD→Px.Rd β} {s s':RS} {b:β} (hs:∀ t r,s=.live (t :: r)→t.kind=2→t.text ∉ Words) (h:Rel sz (refE sz n >>= f) s b s'):Rel sz (Px.unplaced sz n >>= f) s b s':=by
 refine Rel.at0 h (fun ts e=>?_)
 show Px.Rd.bind _ _ ts=Px.Rd.bind _ _ ts
 simp only[Px.Rd.bind]
 rw[refE_eq sz n ts (fun t r e'=>hs t r (by rw[e,e']))]
theorem Rel.unbind {sz:Nat} {α β:Type} [Inhabited α] {p:Px.Rd α} {g:α→β} {s s':RS} {b:β} (h:Rel sz (p >>= fun e=>Pure.pure (g e)) s b s'):∃ e,Rel sz p s e s'∧Rel sz (Pure.pure (g e)) s' b s':=by
 cases s with
 | dead e o=>exact⟨default,h,by have:s'=.dead e o:=h;subst this;rfl⟩
 | live ts =>
  simp only[Rel] at h
  have hb:(p >>= fun e=>Pure.pure (g e)) ts=match p ts with|.ok a r=>.ok (g a) r|.bad r=>.bad r:=rfl
  rw[hb] at h
  cases hp:p ts with
  | ok a r =>
   rw[hp] at h
   obtain⟨rfl,rfl⟩:=h
   refine⟨a,?_,Rel.pure _ _⟩
   simp only[Rel,hp]
   exact⟨trivial,trivial⟩
  | bad r =>
   rw[hp] at h
   simp only at h
   subst h
   refine⟨default,?_,rfl⟩
   simp only[Rel,hp]
instance:Inhabited ExprD:=⟨Px.expr0⟩
theorem num_yes {sz:Nat} {t:Tk} {r:List Tk} (h:t.kind=2):Rel sz Px.numR (.live (t :: r)) true (.live (t :: r)):=by
 refine⟨?_,rfl⟩
 simp[h]
theorem num_no {sz:Nat} {s:RS} (h:∀ t r,s=.live (t :: r)→t.kind≠2):Rel sz Px.numR s false s:=by
 cases s with
 | dead e o=>rfl
 | live ts =>
  cases ts with
  | nil=>exact⟨rfl,rfl⟩
  | cons t r =>
   refine⟨?_,rfl⟩
   have:=h t r rfl
   simp[this]
set_option maxRecDepth 100000 in
set_option maxHeartbeats 6400000 in
theorem rexpr_any (c:RCtx) (s:RS) (w:World) (h:IR c s w) (n:Nat) (hm:s.mu≤n) :
  Calls Tryz.prog 120 #[.pointer (some ⟨c.R,0,none⟩)] w (RD c w (okAgg exprQ) (Px.expr c.size n) s):=by
 obtain⟨i0,hi0,iz0,iz1,iz2⟩:=info_parts info_str
 have HINF:=hid hi0
 clear hi0
 have H:=hid h
 have HR0:=H.out.lt.1
 clear h
 go_enter Tryz.func120,Tryz.ntmps120
 go_wp2_with fail
 refine(rat_any c s _ (by exact H.out.f [] H.out)).mono ?_
 rintro e w1 ⟨_,x1,s1,rfl,hq1,hf,hi,rfl⟩
 have hT:Fr [c.R] w w1:=Fr.trans frk hf.wide
 have hz1:=hf.size;try simp at hz1
 have HB1:Hid (Blk w1 (w.heap.size) 49 #[zI,zS,zS,zS,zN,zI,zN,zI]):=hid ((Blk.new w _ _).keep hf (by first|(simp;done)|omega|(simp;omega)))
 have HI1:=hid hi
 have HF1:=hid ((Fr.refl [c.R] w).j hT)
 have hl1:=hq1.out.mu (Shr.offset _)
 clear hT hf hi
 have HSANE:=hid HI1.out.sane
 have hneDB:w1.heap.size≠w.heap.size:=by omega
 have hneBD:=hneDB.symm
 go_wp2_with (refine wpList_store_row rfl 49 _ _ rfl (w1.heap.size) #[.int .i64 0,.string ⟨#[]⟩,.string ⟨#[]⟩,.string ⟨#[]⟩,.slice none 0 0,.int .i64 0,.slice none 0 0,.int .i64 x1] rfl rfl 49 _ (Blk.new_at (by simp)) rexpr_size rfl (by simp[Value.oneCell']) ?_)
 refine(rnext_q c s1 [45] _ (by exact HI1.out.f [w1.heap.size] H.out)).mono ?_
 rintro e w2 (⟨s2,hq2,hl2,rfl,hf,hi⟩|⟨hq2,rfl,hf,hi⟩)
 ·skip
  obtain⟨hT,HB2,HI2,HF2,hz2⟩:=IR.st [w1.heap.size] HB1.out HF1.out hf hi
  try simp at hz2
  have HD2:Hid (Blk w2 (w1.heap.size) 49 #[zI,zS,zS,zS,zN,zI,zN,.int .i64 x1]):=hid ((show Blk _ (w1.heap.size) 49 #[zI,zS,zS,zS,zN,zI,zN,.int .i64 x1] from setRow_heap _ _ _ _ _ _ (Blk.new_at (by simp))).k hf)
  clear hT hf hi
  have hlD:=HD2.out.lt
  obtain⟨d0,f0⟩:=HD2.out.df 0 (v:=.int .i64 0) rfl
  go_wp2_with fail
  clear hlD d0 f0
  refine(rnumber_b c s2 _ (by exact HI2.out.f [w1.heap.size] H.out)).mono ?_
  rintro e w3 hp
  obtain⟨v3,x3,s3,rfl,hq3,hf,hi,hv,hle3⟩:=hp
  obtain rfl:=hv
  obtain⟨hT,HB3,HI3,HF3,hz3⟩:=IR.st [w1.heap.size] HB2.out HF2.out hf hi
  try simp at hz3
  have HD3:Hid (Blk w3 (w1.heap.size) 49 #[.int .i64 1,zS,zS,zS,zN,zI,zN,.int .i64 x1]):=hid ((HD2.out.set 0 (.int .i64 1)).k hf)
  clear hT hf hi
  have hlD:=HD3.out.lt
  obtain⟨d5,f5⟩:=HD3.out.df 5 (v:=.int .i64 0) rfl
  go_wp2_with (first|(refine wpList_load_row rfl 49 _ rfl (w1.heap.size) rfl 49 #[.int .i64 1,.string ⟨#[]⟩,.string ⟨#[]⟩,.string ⟨#[]⟩,.slice none 0 0,.int .i64 (-(x3:Int)),.slice none 0 0,.int .i64 x1] (0,0) _ (HD3.out.set 5 (.int .i64 (-(x3:Int)))) Tryz.underlying49 rfl rexpr_size ?_)|(refine wpList_store_row rfl 49 _ _ rfl (w.heap.size) _ rfl rfl 49 _ (HB3.out.row [w1.heap.size]) rexpr_size rfl (by simp[Value.oneCell']) ?_))
  refine bodyPost_ret (results_cell_row (p:=2) rfl _ _ (w.heap.size) 49 _ (0,0) _ rfl (setRow_heap _ _ _ _ _ _ (HB3.out.row [w1.heap.size])) Tryz.underlying49 rfl rexpr_size) rfl ?_
  clear hlD d5 f5
  exact RD.mk (⟨1,[],[],[],[],-(x3:Int),[],x1⟩) s3 (by unfold Px.expr;refine Rel.bind hq1.out ?_;refine rel_unpl HSANE.out ?_;refine Rel.bind (a:={ Px.expr0 with kind:=1,op:=[],name:=[],variant:=[],names:=[],num:=-(x3:Int),type:=[] }) ?_ (Rel.pure _ _);unfold refE;refine Rel.by hq2.out ?_;exact Rel.bind hq3.out (Rel.pure _ _)) (HF3.out.jf [w1.heap.size,w.heap.size]) (HI3.out.f [w1.heap.size,w.heap.size] H.out) ⟨_,rfl,(by unfold exprQ strsQ typesS;exact rep_int.2 ⟨_,rfl,rep_str.2 ⟨_,rfl,rep_str.2 ⟨_,rfl,rep_str.2 ⟨_,rfl,rep_sl.2 ⟨_,_,rfl,RowV.nil _ _ _ _,rep_int.2 ⟨_,rfl,rep_sl.2 ⟨_,_,rfl,RowV.nil _ _ _ _,rep_int.2 ⟨_,rfl,rep_nil.2 rfl⟩⟩⟩⟩⟩⟩⟩⟩)⟩
 ·skip
  obtain⟨hT,HB2,HI2,HF2,hz2⟩:=IR.st [w1.heap.size] HB1.out HF1.out hf hi
  try simp at hz2
  have HD2:Hid (Blk w2 (w1.heap.size) 49 #[zI,zS,zS,zS,zN,zI,zN,.int .i64 x1]):=hid ((show Blk _ (w1.heap.size) 49 #[zI,zS,zS,zS,zN,zI,zN,.int .i64 x1] from setRow_heap _ _ _ _ _ _ (Blk.new_at (by simp))).k hf)
  clear hT hf hi
  have hlD:=HD2.out.lt
  go_wp2_with fail
  clear hlD
  refine(rnext_q c s1 [110,101,119] _ (by exact HI2.out.f [w1.heap.size] H.out)).mono ?_
  rintro e w4 (⟨s4,hq4,hl4,rfl,hf,hi⟩|⟨hq4,rfl,hf,hi⟩)
  ·skip
   obtain⟨hT,HB4,HI4,HF4,hz4⟩:=IR.st [w1.heap.size] HB2.out HF2.out hf hi
   try simp at hz4
   have HD4:=hid (HD2.out.k hf)
   clear hT hf hi
   have hlD:=HD4.out.lt
   obtain⟨d0,f0⟩:=HD4.out.df 0 (v:=.int .i64 0) rfl
   go_wp2_with fail
   clear hlD d0 f0
   refine(rname_any c s4 _ (by exact HI4.out.f [w1.heap.size] H.out)).mono ?_
   rintro e w5 ⟨_,x5,s5,rfl,hq5,hf,hi,rfl⟩
   obtain⟨hT,HB5,HI5,HF5,hz5⟩:=IR.st [w1.heap.size] HB4.out HF4.out hf hi
   try simp at hz5
   have HD5:Hid (Blk w5 (w1.heap.size) 49 #[.int .i64 4,zS,zS,zS,zN,zI,zN,.int .i64 x1]):=hid ((HD4.out.set 0 (.int .i64 4)).k hf)
   have hl5:=hq5.out.mu Shr.name
   clear hT hf hi
   have hlD:=HD5.out.lt
   obtain⟨d2,f2⟩:=HD5.out.df 2 (v:=.string ⟨#[]⟩) rfl
   go_wp2_with fail
   clear hlD d2 f2
   refine(rneed_q c s5 [46] _ (by exact HI5.out.f [w1.heap.size] H.out)).mono ?_
   rintro e w6 ⟨rfl,x6,s6,hq6,hf,hi⟩
   obtain⟨hT,HB6,HI6,HF6,hz6⟩:=IR.st [w1.heap.size] HB5.out HF5.out hf hi
   try simp at hz6
   have HD6:Hid (Blk w6 (w1.heap.size) 49 #[.int .i64 4,zS,.string ⟨x5.toArray⟩,zS,zN,zI,zN,.int .i64 x1]):=hid ((HD5.out.set 2 (.string ⟨x5.toArray⟩)).k hf)
   have hl6:=hq6.out.mu (Shr.expect _)
   clear hT hf hi
   have hlD:=HD6.out.lt
   go_wp2_with fail
   clear hlD
   refine(rname_any c s6 _ (by exact HI6.out.f [w1.heap.size] H.out)).mono ?_
   rintro e w7 ⟨_,x7,s7,rfl,hq7,hf,hi,rfl⟩
   obtain⟨hT,HB7,HI7,HF7,hz7⟩:=IR.st [w1.heap.size] HB6.out HF6.out hf hi
   try simp at hz7
   have HD7:=hid (HD6.out.k hf)
   have hl7:=hq7.out.mu Shr.name
   clear hT hf hi
   have hlD:=HD7.out.lt
   obtain⟨d3,f3⟩:=HD7.out.df 3 (v:=.string ⟨#[]⟩) rfl
   go_wp2_with fail
   clear hlD d3 f3
   refine(rwithin_any c s7 _ (by exact HI7.out.f [w1.heap.size] H.out)).mono ?_
   rintro e w8 ⟨v8,x8,s8,rfl,hq8,hf,hi,hv⟩
   obtain⟨p8,n8,k8,rfl⟩:=row_shp hv
   have hV8:=(row_of hv).k (N':=(fun k=>w.heap.size≤k∧k≠w.heap.size∧k≠w1.heap.size)) (Fr.refl [] _)
   obtain⟨hT,HB8,HI8,HF8,hz8⟩:=IR.st [w1.heap.size] HB7.out HF7.out hf hi
   try simp at hz8
   have HD8:Hid (Blk w8 (w1.heap.size) 49 #[.int .i64 4,zS,.string ⟨x5.toArray⟩,.string ⟨x7.toArray⟩,zN,zI,zN,.int .i64 x1]):=hid ((HD7.out.set 3 (.string ⟨x7.toArray⟩)).k hf)
   have HV8:=hid hV8
   clear hT hf hi hV8 hv
   have hlD:=HD8.out.lt
   obtain⟨d4,f4⟩:=HD8.out.df 4 (v:=.slice none 0 0) rfl
   go_wp2_with (first|(refine wpList_load_row rfl 49 _ rfl (w1.heap.size) rfl 49 #[.int .i64 4,.string ⟨#[]⟩,.string ⟨x5.toArray⟩,.string ⟨x7.toArray⟩,.slice p8 n8 k8,.int .i64 0,.slice none 0 0,.int .i64 x1] (0,0) _ (HD8.out.set 4 (.slice p8 n8 k8)) Tryz.underlying49 rfl rexpr_size ?_)|(refine wpList_store_row rfl 49 _ _ rfl (w.heap.size) _ rfl rfl 49 _ (HB8.out.row [w1.heap.size]) rexpr_size rfl (by simp[Value.oneCell']) ?_))
   refine bodyPost_ret (results_cell_row (p:=2) rfl _ _ (w.heap.size) 49 _ (0,0) _ rfl (setRow_heap _ _ _ _ _ _ (HB8.out.row [w1.heap.size])) Tryz.underlying49 rfl rexpr_size) rfl ?_
   clear hlD d4 f4
   exact RD.mk (⟨4,[],x5,x7,x8,0,[],x1⟩) s8 (by unfold Px.expr;refine Rel.bind hq1.out ?_;refine rel_unpl HSANE.out ?_;refine Rel.bind (a:={ Px.expr0 with kind:=4,op:=[],name:=x5,variant:=x7,names:=x8,num:=0,type:=[] }) ?_ (Rel.pure _ _);unfold refE;refine .bn hq2.out<|.by hq4.out ?_;unfold Px.newValue;exact Rel.bind hq5.out (Rel.bind hq6.out (Rel.bind hq7.out (Rel.bind hq8.out (Rel.pure _ _))))) (HF8.out.jf [w1.heap.size,w.heap.size]) (HI8.out.f [w1.heap.size,w.heap.size] H.out) ⟨_,rfl,(by unfold exprQ strsQ typesS;exact rep_int.2 ⟨_,rfl,rep_str.2 ⟨_,rfl,rep_str.2 ⟨_,rfl,rep_str.2 ⟨_,rfl,rep_sl.2 ⟨_,_,rfl,(HV8.out.f [w1.heap.size,w.heap.size]),rep_int.2 ⟨_,rfl,rep_sl.2 ⟨_,_,rfl,RowV.nil _ _ _ _,rep_int.2 ⟨_,rfl,rep_nil.2 rfl⟩⟩⟩⟩⟩⟩⟩⟩)⟩
  ·skip
   obtain⟨hT,HB4,HI4,HF4,hz4⟩:=IR.st [w1.heap.size] HB2.out HF2.out hf hi
   try simp at hz4
   have HD4:=hid (HD2.out.k hf)
   clear hT hf hi
   have hlD:=HD4.out.lt
   go_wp2_with fail
   clear hlD
   refine(rnext_q c s1 [98,111,120] _ (by exact HI4.out.f [w1.heap.size] H.out)).mono ?_
   rintro e w9 (⟨s9,hq9,hl9,rfl,hf,hi⟩|⟨hq9,rfl,hf,hi⟩)
   ·skip
    obtain⟨hT,HB9,HI9,HF9,hz9⟩:=IR.st [w1.heap.size] HB4.out HF4.out hf hi
    try simp at hz9
    have HD9:=hid (HD4.out.k hf)
    clear hT hf hi
    have hlD:=HD9.out.lt
    obtain⟨d0,f0⟩:=HD9.out.df 0 (v:=.int .i64 0) rfl
    go_wp2_with fail
    clear hlD d0 f0
    refine(rname_any c s9 _ (by exact HI9.out.f [w1.heap.size] H.out)).mono ?_
    rintro e w10 ⟨_,x10,s10,rfl,hq10,hf,hi,rfl⟩
    obtain⟨hT,HB10,HI10,HF10,hz10⟩:=IR.st [w1.heap.size] HB9.out HF9.out hf hi
    try simp at hz10
    have HD10:Hid (Blk w10 (w1.heap.size) 49 #[.int .i64 5,zS,zS,zS,zN,zI,zN,.int .i64 x1]):=hid ((HD9.out.set 0 (.int .i64 5)).k hf)
    have hl10:=hq10.out.mu Shr.name
    clear hT hf hi
    have hlD:=HD10.out.lt
    obtain⟨d4,f4⟩:=HD10.out.df 4 (v:=.slice none 0 0) rfl
    go_wp2_with (first|(refine wpList_load_row rfl 49 _ rfl (w1.heap.size) rfl 49 #[.int .i64 5,.string ⟨#[]⟩,.string ⟨#[]⟩,.string ⟨#[]⟩,.slice (some ⟨w10.heap.size,0,none⟩) 1 1,.int .i64 0,.slice none 0 0,.int .i64 x1] (0,0) _ (Blk.alloc (HD10.out.set 4 (.slice (some ⟨w10.heap.size,0,none⟩) 1 1)) _) Tryz.underlying49 rfl rexpr_size ?_)|(refine wpList_store_row rfl 49 _ _ rfl (w.heap.size) _ rfl rfl 49 _ (HB10.out.row [w1.heap.size]) rexpr_size rfl (by simp[Value.oneCell']) ?_))
    refine bodyPost_ret (results_cell_row (p:=2) rfl _ _ (w.heap.size) 49 _ (0,0) _ rfl (setRow_heap _ _ _ _ _ _ (HB10.out.row [w1.heap.size])) Tryz.underlying49 rfl rexpr_size) rfl ?_
    clear hlD d4 f4
    exact RD.mk (⟨5,[],[],[],[x10],0,[],x1⟩) s10 (by unfold Px.expr;refine Rel.bind hq1.out ?_;refine rel_unpl HSANE.out ?_;refine Rel.bind (a:={ Px.expr0 with kind:=5,op:=[],name:=[],variant:=[],names:=[x10],num:=0,type:=[] }) ?_ (Rel.pure _ _);unfold refE;refine .bn hq2.out<|.bn hq4.out<|.by hq9.out ?_;exact rel_op1 hq10.out) (HF10.out.jf [w1.heap.size,w.heap.size]) (HI10.out.f [w1.heap.size,w.heap.size] H.out) ⟨_,rfl,(by unfold exprQ strsQ typesS;exact rep_int.2 ⟨_,rfl,rep_str.2 ⟨_,rfl,rep_str.2 ⟨_,rfl,rep_str.2 ⟨_,rfl,rep_sl.2 ⟨_,_,rfl,(strs_rowk (N:=(fun k=>w.heap.size≤k)) (l:=[x10]) (g:=w10.heap.size) (show Blk _ _ _ #[.string ⟨x10.toArray⟩] from (by repeat' (first|with_reducible refine Blk.new_at ?_|with_reducible refine Blk.alloc ?_ _|with_reducible refine Blk.other ?_ ?_ _|with_reducible refine Blk.setRow_other ?_ ?_|(simp;done)|(simp;omega)))) (by (try simp);omega) (by simp) (by simp)),rep_int.2 ⟨_,rfl,rep_sl.2 ⟨_,_,rfl,RowV.nil _ _ _ _,rep_int.2 ⟨_,rfl,rep_nil.2 rfl⟩⟩⟩⟩⟩⟩⟩⟩)⟩
   ·skip
    obtain⟨hT,HB9,HI9,HF9,hz9⟩:=IR.st [w1.heap.size] HB4.out HF4.out hf hi
    try simp at hz9
    have HD9:=hid (HD4.out.k hf)
    clear hT hf hi
    have hlD:=HD9.out.lt
    go_wp2_with fail
    clear hlD
    refine(rnext_q c s1 [117,110,98,111,120] _ (by exact HI9.out.f [w1.heap.size] H.out)).mono ?_
    rintro e w11 (⟨s11,hq11,hl11,rfl,hf,hi⟩|⟨hq11,rfl,hf,hi⟩)
    ·skip
     obtain⟨hT,HB11,HI11,HF11,hz11⟩:=IR.st [w1.heap.size] HB9.out HF9.out hf hi
     try simp at hz11
     have HD11:=hid (HD9.out.k hf)
     clear hT hf hi
     have hlD:=HD11.out.lt
     obtain⟨d0,f0⟩:=HD11.out.df 0 (v:=.int .i64 0) rfl
     go_wp2_with fail
     clear hlD d0 f0
     refine(rname_any c s11 _ (by exact HI11.out.f [w1.heap.size] H.out)).mono ?_
     rintro e w12 ⟨_,x12,s12,rfl,hq12,hf,hi,rfl⟩
     obtain⟨hT,HB12,HI12,HF12,hz12⟩:=IR.st [w1.heap.size] HB11.out HF11.out hf hi
     try simp at hz12
     have HD12:Hid (Blk w12 (w1.heap.size) 49 #[.int .i64 6,zS,zS,zS,zN,zI,zN,.int .i64 x1]):=hid ((HD11.out.set 0 (.int .i64 6)).k hf)
     have hl12:=hq12.out.mu Shr.name
     clear hT hf hi
     have hlD:=HD12.out.lt
     obtain⟨d4,f4⟩:=HD12.out.df 4 (v:=.slice none 0 0) rfl
     go_wp2_with (first|(refine wpList_load_row rfl 49 _ rfl (w1.heap.size) rfl 49 #[.int .i64 6,.string ⟨#[]⟩,.string ⟨#[]⟩,.string ⟨#[]⟩,.slice (some ⟨w12.heap.size,0,none⟩) 1 1,.int .i64 0,.slice none 0 0,.int .i64 x1] (0,0) _ (Blk.alloc (HD12.out.set 4 (.slice (some ⟨w12.heap.size,0,none⟩) 1 1)) _) Tryz.underlying49 rfl rexpr_size ?_)|(refine wpList_store_row rfl 49 _ _ rfl (w.heap.size) _ rfl rfl 49 _ (HB12.out.row [w1.heap.size]) rexpr_size rfl (by simp[Value.oneCell']) ?_))
     refine bodyPost_ret (results_cell_row (p:=2) rfl _ _ (w.heap.size) 49 _ (0,0) _ rfl (setRow_heap _ _ _ _ _ _ (HB12.out.row [w1.heap.size])) Tryz.underlying49 rfl rexpr_size) rfl ?_
     clear hlD d4 f4
     exact RD.mk (⟨6,[],[],[],[x12],0,[],x1⟩) s12 (by unfold Px.expr;refine Rel.bind hq1.out ?_;refine rel_unpl HSANE.out ?_;refine Rel.bind (a:={ Px.expr0 with kind:=6,op:=[],name:=[],variant:=[],names:=[x12],num:=0,type:=[] }) ?_ (Rel.pure _ _);unfold refE;refine .bn hq2.out<|.bn hq4.out ?_;refine .bn hq9.out<|.by hq11.out ?_;exact rel_op1 hq12.out) (HF12.out.jf [w1.heap.size,w.heap.size]) (HI12.out.f [w1.heap.size,w.heap.size] H.out) ⟨_,rfl,(by unfold exprQ strsQ typesS;exact rep_int.2 ⟨_,rfl,rep_str.2 ⟨_,rfl,rep_str.2 ⟨_,rfl,rep_str.2 ⟨_,rfl,rep_sl.2 ⟨_,_,rfl,(strs_rowk (N:=(fun k=>w.heap.size≤k)) (l:=[x12]) (g:=w12.heap.size) (show Blk _ _ _ #[.string ⟨x12.toArray⟩] from (by repeat' (first|with_reducible refine Blk.new_at ?_|with_reducible refine Blk.alloc ?_ _|with_reducible refine Blk.other ?_ ?_ _|with_reducible refine Blk.setRow_other ?_ ?_|(simp;done)|(simp;omega)))) (by (try simp);omega) (by simp) (by simp)),rep_int.2 ⟨_,rfl,rep_sl.2 ⟨_,_,rfl,RowV.nil _ _ _ _,rep_int.2 ⟨_,rfl,rep_nil.2 rfl⟩⟩⟩⟩⟩⟩⟩⟩)⟩
    ·skip
     obtain⟨hT,HB11,HI11,HF11,hz11⟩:=IR.st [w1.heap.size] HB9.out HF9.out hf hi
     try simp at hz11
     have HD11:=hid (HD9.out.k hf)
     clear hT hf hi
     have hlD:=HD11.out.lt
     go_wp2_with fail
     clear hlD
     refine(rnext_q c s1 [38] _ (by exact HI11.out.f [w1.heap.size] H.out)).mono ?_
     rintro e w13 (⟨s13,hq13,hl13,rfl,hf,hi⟩|⟨hq13,rfl,hf,hi⟩)
     ·skip
      obtain⟨hT,HB13,HI13,HF13,hz13⟩:=IR.st [w1.heap.size] HB11.out HF11.out hf hi
      try simp at hz13
      have HD13:=hid (HD11.out.k hf)
      clear hT hf hi
      go_wp2_with (refine wpList_load_row rfl 49 _ rfl (w1.heap.size) rfl 49 #[.int .i64 0,.string ⟨#[]⟩,.string ⟨#[]⟩,.string ⟨#[]⟩,.slice none 0 0,.int .i64 0,.slice none 0 0,.int .i64 x1] (0,0) _ HD13.out Tryz.underlying49 rfl rexpr_size ?_)
      refine(rlent_any c 7 9 11 x1 s13 _ (by exact HI13.out.f [w1.heap.size] H.out)).mono ?_
      rintro e w14 ⟨v14,x14,s14,rfl,hq14,hf,hi,hv⟩
      obtain⟨cs,rfl,hrep⟩:=hv
      obtain⟨i14_0,s14_1,s14_2,s14_3,p14_4,n14_4,c14_4,i14_5,p14_6,n14_6,c14_6,i14_7,rfl⟩:=hrep.c_exprQ
      have hV14:=hrep.k (N':=(fun k=>w.heap.size≤k∧k≠w.heap.size∧k≠w1.heap.size)) (Fr.refl [] _)
      obtain⟨hT,HB14,HI14,HF14,hz14⟩:=IR.st [w1.heap.size] HB13.out HF13.out hf hi
      try simp at hz14
      have HD14:=hid (HD13.out.k hf)
      have HV14:=hid hV14
      clear hT hf hi hV14 hrep
      obtain⟨e9,hqe,hqp⟩:=Rel.unbind hq14.out
      have HQE:=hid hqe;have HQP:=hid hqp;clear hqe hqp
      go_wp2_with (refine wpList_store_row rfl 49 _ _ rfl (w.heap.size) #[.int .i64 i14_0,.string s14_1,.string s14_2,.string s14_3,.slice p14_4 n14_4 c14_4,.int .i64 i14_5,.slice p14_6 n14_6 c14_6,.int .i64 i14_7] rfl rfl 49 _ (show Blk _ (w.heap.size) 49 #[zI,zS,zS,zS,zN,zI,zN,zI] from HB14.out.f [w1.heap.size]) rexpr_size rfl (by simp[Value.oneCell']) ?_)
      refine bodyPost_ret (v:=.agg #[.int .i64 i14_0,.string s14_1,.string s14_2,.string s14_3,.slice p14_4 n14_4 c14_4,.int .i64 i14_5,.slice p14_6 n14_6 c14_6,.int .i64 i14_7]) ?_ rfl ?_
      ·exact results_cell_row (p:=2) rfl _ _ (w.heap.size) 49 #[.int .i64 i14_0,.string s14_1,.string s14_2,.string s14_3,.slice p14_4 n14_4 c14_4,.int .i64 i14_5,.slice p14_6 n14_6 c14_6,.int .i64 i14_7] (0,0) _ rfl (setRow_heap _ _ _ _ _ _ (show Blk _ (w.heap.size) 49 #[zI,zS,zS,zS,zN,zI,zN,zI] from HB14.out.f [w1.heap.size])) Tryz.underlying49 rfl rexpr_size
      exact RD.mk (x14) s14 (by unfold Px.expr;refine Rel.bind hq1.out ?_;refine rel_unpl HSANE.out ?_;refine Rel.bind (a:=e9) ?_ HQP.out;unfold refE;refine .bn hq2.out<|.bn hq4.out ?_;refine .bn hq9.out<|.bn hq11.out<|.by hq13.out ?_;exact HQE.out) (HF14.out.jf [w1.heap.size,w.heap.size]) (HI14.out.f [w1.heap.size,w.heap.size] H.out) ⟨_,rfl,(HV14.out.f [w1.heap.size,w.heap.size])⟩
     ·skip
      obtain⟨hT,HB13,HI13,HF13,hz13⟩:=IR.st [w1.heap.size] HB11.out HF11.out hf hi
      try simp at hz13
      have HD13:=hid (HD11.out.k hf)
      clear hT hf hi
      have hlD:=HD13.out.lt
      go_wp2_with fail
      clear hlD
      refine(rnext_q c s1 [38,33] _ (by exact HI13.out.f [w1.heap.size] H.out)).mono ?_
      rintro e w15 (⟨s15,hq15,hl15,rfl,hf,hi⟩|⟨hq15,rfl,hf,hi⟩)
      ·skip
       obtain⟨hT,HB15,HI15,HF15,hz15⟩:=IR.st [w1.heap.size] HB13.out HF13.out hf hi
       try simp at hz15
       have HD15:=hid (HD13.out.k hf)
       clear hT hf hi
       go_wp2_with (refine wpList_load_row rfl 49 _ rfl (w1.heap.size) rfl 49 #[.int .i64 0,.string ⟨#[]⟩,.string ⟨#[]⟩,.string ⟨#[]⟩,.slice none 0 0,.int .i64 0,.slice none 0 0,.int .i64 x1] (0,0) _ HD15.out Tryz.underlying49 rfl rexpr_size ?_)
       refine(rlent_any c 8 10 12 x1 s15 _ (by exact HI15.out.f [w1.heap.size] H.out)).mono ?_
       rintro e w16 ⟨v16,x16,s16,rfl,hq16,hf,hi,hv⟩
       obtain⟨cs,rfl,hrep⟩:=hv
       obtain⟨i16_0,s16_1,s16_2,s16_3,p16_4,n16_4,c16_4,i16_5,p16_6,n16_6,c16_6,i16_7,rfl⟩:=hrep.c_exprQ
       have hV16:=hrep.k (N':=(fun k=>w.heap.size≤k∧k≠w.heap.size∧k≠w1.heap.size)) (Fr.refl [] _)
       obtain⟨hT,HB16,HI16,HF16,hz16⟩:=IR.st [w1.heap.size] HB15.out HF15.out hf hi
       try simp at hz16
       have HD16:=hid (HD15.out.k hf)
       have HV16:=hid hV16
       clear hT hf hi hV16 hrep
       obtain⟨e9,hqe,hqp⟩:=Rel.unbind hq16.out
       have HQE:=hid hqe;have HQP:=hid hqp;clear hqe hqp
       go_wp2_with (refine wpList_store_row rfl 49 _ _ rfl (w.heap.size) #[.int .i64 i16_0,.string s16_1,.string s16_2,.string s16_3,.slice p16_4 n16_4 c16_4,.int .i64 i16_5,.slice p16_6 n16_6 c16_6,.int .i64 i16_7] rfl rfl 49 _ (show Blk _ (w.heap.size) 49 #[zI,zS,zS,zS,zN,zI,zN,zI] from HB16.out.f [w1.heap.size]) rexpr_size rfl (by simp[Value.oneCell']) ?_)
       refine bodyPost_ret (v:=.agg #[.int .i64 i16_0,.string s16_1,.string s16_2,.string s16_3,.slice p16_4 n16_4 c16_4,.int .i64 i16_5,.slice p16_6 n16_6 c16_6,.int .i64 i16_7]) ?_ rfl ?_
       ·exact results_cell_row (p:=2) rfl _ _ (w.heap.size) 49 #[.int .i64 i16_0,.string s16_1,.string s16_2,.string s16_3,.slice p16_4 n16_4 c16_4,.int .i64 i16_5,.slice p16_6 n16_6 c16_6,.int .i64 i16_7] (0,0) _ rfl (setRow_heap _ _ _ _ _ _ (show Blk _ (w.heap.size) 49 #[zI,zS,zS,zS,zN,zI,zN,zI] from HB16.out.f [w1.heap.size])) Tryz.underlying49 rfl rexpr_size
       exact RD.mk (x16) s16 (by unfold Px.expr;refine Rel.bind hq1.out ?_;refine rel_unpl HSANE.out ?_;refine Rel.bind (a:=e9) ?_ HQP.out;unfold refE;refine .bn hq2.out<|.bn hq4.out ?_;refine .bn hq9.out<|.bn hq11.out ?_;refine .bn hq13.out<|.by hq15.out ?_;exact HQE.out) (HF16.out.jf [w1.heap.size,w.heap.size]) (HI16.out.f [w1.heap.size,w.heap.size] H.out) ⟨_,rfl,(HV16.out.f [w1.heap.size,w.heap.size])⟩
      ·skip
       obtain⟨hT,HB15,HI15,HF15,hz15⟩:=IR.st [w1.heap.size] HB13.out HF13.out hf hi
       try simp at hz15
       have HD15:=hid (HD13.out.k hf)
       clear hT hf hi
       have hlD:=HD15.out.lt
       go_wp2_with fail
       clear hlD
       refine(rnext_q c s1 [42] _ (by exact HI15.out.f [w1.heap.size] H.out)).mono ?_
       rintro e w17 (⟨s17,hq17,hl17,rfl,hf,hi⟩|⟨hq17,rfl,hf,hi⟩)
       ·skip
        obtain⟨hT,HB17,HI17,HF17,hz17⟩:=IR.st [w1.heap.size] HB15.out HF15.out hf hi
        try simp at hz17
        have HD17:=hid (HD15.out.k hf)
        clear hT hf hi
        have hlD:=HD17.out.lt
        obtain⟨d0,f0⟩:=HD17.out.df 0 (v:=.int .i64 0) rfl
        go_wp2_with fail
        clear hlD d0 f0
        refine(rname_any c s17 _ (by exact HI17.out.f [w1.heap.size] H.out)).mono ?_
        rintro e w18 ⟨_,x18,s18,rfl,hq18,hf,hi,rfl⟩
        obtain⟨hT,HB18,HI18,HF18,hz18⟩:=IR.st [w1.heap.size] HB17.out HF17.out hf hi
        try simp at hz18
        have HD18:Hid (Blk w18 (w1.heap.size) 49 #[.int .i64 14,zS,zS,zS,zN,zI,zN,.int .i64 x1]):=hid ((HD17.out.set 0 (.int .i64 14)).k hf)
        have hl18:=hq18.out.mu Shr.name
        clear hT hf hi
        have hlD:=HD18.out.lt
        obtain⟨d4,f4⟩:=HD18.out.df 4 (v:=.slice none 0 0) rfl
        go_wp2_with (first|(refine wpList_load_row rfl 49 _ rfl (w1.heap.size) rfl 49 #[.int .i64 14,.string ⟨#[]⟩,.string ⟨#[]⟩,.string ⟨#[]⟩,.slice (some ⟨w18.heap.size,0,none⟩) 1 1,.int .i64 0,.slice none 0 0,.int .i64 x1] (0,0) _ (Blk.alloc (HD18.out.set 4 (.slice (some ⟨w18.heap.size,0,none⟩) 1 1)) _) Tryz.underlying49 rfl rexpr_size ?_)|(refine wpList_store_row rfl 49 _ _ rfl (w.heap.size) _ rfl rfl 49 _ (HB18.out.row [w1.heap.size]) rexpr_size rfl (by simp[Value.oneCell']) ?_))
        refine bodyPost_ret (results_cell_row (p:=2) rfl _ _ (w.heap.size) 49 _ (0,0) _ rfl (setRow_heap _ _ _ _ _ _ (HB18.out.row [w1.heap.size])) Tryz.underlying49 rfl rexpr_size) rfl ?_
        clear hlD d4 f4
        exact RD.mk (⟨14,[],[],[],[x18],0,[],x1⟩) s18 (by unfold Px.expr;refine Rel.bind hq1.out ?_;refine rel_unpl HSANE.out ?_;refine Rel.bind (a:={ Px.expr0 with kind:=14,op:=[],name:=[],variant:=[],names:=[x18],num:=0,type:=[] }) ?_ (Rel.pure _ _);unfold refE;refine .bn hq2.out<|.bn hq4.out ?_;refine .bn hq9.out<|.bn hq11.out ?_;refine .bn hq13.out<|.bn hq15.out<|.by hq17.out ?_;exact rel_op1 hq18.out) (HF18.out.jf [w1.heap.size,w.heap.size]) (HI18.out.f [w1.heap.size,w.heap.size] H.out) ⟨_,rfl,(by unfold exprQ strsQ typesS;exact rep_int.2 ⟨_,rfl,rep_str.2 ⟨_,rfl,rep_str.2 ⟨_,rfl,rep_str.2 ⟨_,rfl,rep_sl.2 ⟨_,_,rfl,(strs_rowk (N:=(fun k=>w.heap.size≤k)) (l:=[x18]) (g:=w18.heap.size) (show Blk _ _ _ #[.string ⟨x18.toArray⟩] from (by repeat' (first|with_reducible refine Blk.new_at ?_|with_reducible refine Blk.alloc ?_ _|with_reducible refine Blk.other ?_ ?_ _|with_reducible refine Blk.setRow_other ?_ ?_|(simp;done)|(simp;omega)))) (by (try simp);omega) (by simp) (by simp)),rep_int.2 ⟨_,rfl,rep_sl.2 ⟨_,_,rfl,RowV.nil _ _ _ _,rep_int.2 ⟨_,rfl,rep_nil.2 rfl⟩⟩⟩⟩⟩⟩⟩⟩)⟩
       ·skip
        obtain⟨hT,HB17,HI17,HF17,hz17⟩:=IR.st [w1.heap.size] HB15.out HF15.out hf hi
        try simp at hz17
        have HD17:=hid (HD15.out.k hf)
        clear hT hf hi
        have hlD:=HD17.out.lt
        go_wp2_with fail
        clear hlD
        refine(rnext_q c s1 [97,114,101,110,97] _ (by exact HI17.out.f [w1.heap.size] H.out)).mono ?_
        rintro e w19 (⟨s19,hq19,hl19,rfl,hf,hi⟩|⟨hq19,rfl,hf,hi⟩)
        ·skip
         obtain⟨hT,HB19,HI19,HF19,hz19⟩:=IR.st [w1.heap.size] HB17.out HF17.out hf hi
         try simp at hz19
         have HD19:=hid (HD17.out.k hf)
         clear hT hf hi
         have hlD:=HD19.out.lt
         obtain⟨d0,f0⟩:=HD19.out.df 0 (v:=.int .i64 0) rfl
         go_wp2_with (first|(refine wpList_load_row rfl 49 _ rfl (w1.heap.size) rfl 49 #[.int .i64 17,.string ⟨#[]⟩,.string ⟨#[]⟩,.string ⟨#[]⟩,.slice none 0 0,.int .i64 0,.slice none 0 0,.int .i64 x1] (0,0) _ (HD19.out.set 0 (.int .i64 17)) Tryz.underlying49 rfl rexpr_size ?_)|(refine wpList_store_row rfl 49 _ _ rfl (w.heap.size) _ rfl rfl 49 _ (HB19.out.row [w1.heap.size]) rexpr_size rfl (by simp[Value.oneCell']) ?_))
         refine bodyPost_ret (results_cell_row (p:=2) rfl _ _ (w.heap.size) 49 _ (0,0) _ rfl (setRow_heap _ _ _ _ _ _ (HB19.out.row [w1.heap.size])) Tryz.underlying49 rfl rexpr_size) rfl ?_
         clear hlD d0 f0
         exact RD.mk (⟨17,[],[],[],[],0,[],x1⟩) s19 (by unfold Px.expr;refine Rel.bind hq1.out ?_;refine rel_unpl HSANE.out ?_;refine Rel.bind (a:={ Px.expr0 with kind:=17,op:=[],name:=[],variant:=[],names:=[],num:=0,type:=[] }) ?_ (Rel.pure _ _);unfold refE;refine .bn hq2.out<|.bn hq4.out ?_;refine .bn hq9.out<|.bn hq11.out ?_;refine .bn hq13.out<|.bn hq15.out ?_;refine .bn hq17.out<|.by hq19.out ?_;exact rel_op0) (HF19.out.jf [w1.heap.size,w.heap.size]) (HI19.out.f [w1.heap.size,w.heap.size] H.out) ⟨_,rfl,(by unfold exprQ strsQ typesS;exact rep_int.2 ⟨_,rfl,rep_str.2 ⟨_,rfl,rep_str.2 ⟨_,rfl,rep_str.2 ⟨_,rfl,rep_sl.2 ⟨_,_,rfl,RowV.nil _ _ _ _,rep_int.2 ⟨_,rfl,rep_sl.2 ⟨_,_,rfl,RowV.nil _ _ _ _,rep_int.2 ⟨_,rfl,rep_nil.2 rfl⟩⟩⟩⟩⟩⟩⟩⟩)⟩
        ·skip
         obtain⟨hT,HB19,HI19,HF19,hz19⟩:=IR.st [w1.heap.size] HB17.out HF17.out hf hi
         try simp at hz19
         have HD19:=hid (HD17.out.k hf)
         clear hT hf hi
         have hlD:=HD19.out.lt
         go_wp2_with fail
         clear hlD
         refine(rnext_q c s1 [97,108,108,111,99] _ (by exact HI19.out.f [w1.heap.size] H.out)).mono ?_
         rintro e w20 (⟨s20,hq20,hl20,rfl,hf,hi⟩|⟨hq20,rfl,hf,hi⟩)
         ·skip
          obtain⟨hT,HB20,HI20,HF20,hz20⟩:=IR.st [w1.heap.size] HB19.out HF19.out hf hi
          try simp at hz20
          have HD20:=hid (HD19.out.k hf)
          clear hT hf hi
          have hlD:=HD20.out.lt
          obtain⟨d0,f0⟩:=HD20.out.df 0 (v:=.int .i64 0) rfl
          go_wp2_with fail
          clear hlD d0 f0
          refine(rname_any c s20 _ (by exact HI20.out.f [w1.heap.size] H.out)).mono ?_
          rintro e w21 ⟨_,x21,s21,rfl,hq21,hf,hi,rfl⟩
          obtain⟨hT,HB21,HI21,HF21,hz21⟩:=IR.st [w1.heap.size] HB20.out HF20.out hf hi
          try simp at hz21
          have HD21:Hid (Blk w21 (w1.heap.size) 49 #[.int .i64 18,zS,zS,zS,zN,zI,zN,.int .i64 x1]):=hid ((HD20.out.set 0 (.int .i64 18)).k hf)
          have hl21:=hq21.out.mu Shr.name
          clear hT hf hi
          have hlD:=HD21.out.lt
          obtain⟨d4,f4⟩:=HD21.out.df 4 (v:=.slice none 0 0) rfl
          go_wp2_with fail
          clear hlD d4 f4
          obtain⟨wz,hwz⟩:∃ wz,wz=(w21.setCell ⟨w1.heap.size,4,none⟩ (.slice (some ⟨w21.heap.size,0,none⟩) 1 1)).alloc (.cells #[.string ⟨x21.toArray⟩] 9):=⟨_,rfl⟩
          have hfz:Fr [c.R,w1.heap.size] w21 wz:=by rw[hwz];exact frk
          have HIz:Hid (IR c s21 wz):=hid (by rw[hwz];exact HI21.out.f [w1.heap.size] H.out)
          have HFz:=hid (HF21.out.j hfz)
          have HDz:Hid (Blk wz (w1.heap.size) 49 #[.int .i64 18,zS,zS,zS,.slice (some ⟨w21.heap.size,0,none⟩) 1 1,zI,zN,.int .i64 x1]):=hid (by rw[hwz];exact(HD21.out.set 4 _).alloc _)
          have HBz:Hid (Blk wz (w.heap.size) 49 #[zI,zS,zS,zS,zN,zI,zN,zI]):=hid (HB21.out.keep hfz (by first|(simp;done)|omega|(simp;omega)))
          have HLz:Hid (ListAt wz w21.heap.size 9 1 1 (strQ x21) (.slice (some ⟨w21.heap.size,0,none⟩) 1 1)):=hid (ListAt.one (xs:=[.string ⟨x21.toArray⟩]) (Nat.le_refl _) (by rw[hwz];exact(Blk.new_at (by simp))) rfl (by unfold strQ;rw[rep_str];exact⟨_,rfl,rep_nil.2 rfl⟩))
          have hzz:w21.heap.size+1≤wz.heap.size:=by rw[hwz];simp
          rw[← hwz]
          clear hwz hfz
          have hlD:=HDz.out.lt
          obtain⟨d4,f4⟩:=HDz.out.df 4 (v:=.slice (some ⟨w21.heap.size,0,none⟩) 1 1) rfl
          have hbw:w21.heap.size≤wz.heap.size:=by omega
          have hRb:c.R<w21.heap.size:=by omega
          go_region_law (first|(refine step_append_list _ (by rfl) _ _ 23 (by rfl) (w21.heap.size) 9 i0 _ 1 16 Tryz.underlying23 HINF.out iz0 iz1 iz2 rfl (by decide) (.slice (some ⟨w21.heap.size,0,none⟩) 1 1) (1) 1 (strQ x21) (strQ x22) (by rfl) G1.out ⟨w22.heap.size,0,none⟩ 1 [.string ⟨x22.toArray⟩] (by rfl) (by decide) rfl G2.out G3.out (by decide) (by decide) g4 ?_;intro p' c' w23 hL23 hg23;have hown:∀ k,(.slice (some ⟨w21.heap.size,0,none⟩) 1 1:Value).ownBlock=some k→w21.heap.size≤k:=(fun k e=>(HLz.out.own k e).1);have HD23:=hid ((HD22.out.alloc _).grown hg23 (fun k e=>by have:=hown k e;omega));obtain⟨k23,m23⟩:=HD23.out.df 4 (v:=.slice (some ⟨w21.heap.size,0,none⟩) 1 1) rfl;have HL23:=hid hL23;have HG23:=hid hg23;clear hL23 hg23)|(go_simp;go_at_call 24;refine(rname_any c s21 _ (by exact(HIz.out.f [] H.out))).mono ?_;rintro e w22 hp;obtain⟨v22,x22,s22,rfl,hq22,hf22,hi22,hv22⟩:=hp;have hx22:Fr [c.R] wz w22:=Fr.trans frk hf22;obtain rfl:=hv22;have hrep:Rep w22 (fun k=>wz.heap.size≤k) (strQ x22) [.string ⟨x22.toArray⟩]:=(by unfold strQ;rw[rep_str];exact⟨_,rfl,rep_nil.2 rfl⟩);have HD22:=hid (HDz.out.k hx22);have k22:=HD22.out.at 4 (v:=.slice (some ⟨w21.heap.size,0,none⟩) 1 1) rfl;have hlx22:=HD22.out.lt;obtain⟨g1,g2,g3,g4⟩:=append_ready (news:=[.string ⟨x22.toArray⟩]) HLz.out (Nat.le_refl _) hx22 hRb hbw hrep 9;have G1:=hid g1;have G2:=hid g2;have G3:=hid g3;have HX22:=hid hx22;have HI22c:=hid hi22;have hh22:wz.heap.size≤w22.heap.size:=hx22.size;clear g1 g2 g3 hrep hx22 hi22 hf22))
          all_goals
           have hFG:FrB [c.R] (w21.heap.size) wz w23:=frb_grown (HX22.out.alloc (.cells #[.string ⟨x22.toArray⟩] 9)) HG23.out hown
           have hz23:wz.heap.size≤w23.heap.size:=hFG.size
           have HI23:Hid (IR c s22 w23):=hid ((HI22c.out.alloc _).grown H.out HG23.out (fun k e=>by have:=hown k e;omega))
           have HB23:=hid (((HBz.out.k HX22.out).alloc _).grown HG23.out (fun k e=>by have:=hown k e;omega))
           have HF23:Hid (Fr [c.R] w w23):=hid (HFz.out.frb hFG (by omega))
           clear k23 m23 hFG
           have HRW:Hid (RowV w23 (fun k=>w21.heap.size≤k) 9 1 [x21,x22].length (rowsQ strQ [x21,x22]) (.slice p' (1+1) c')):=hid (by have:=HL23.out.row;simpa [rowsQ,Q.app_nil] using this)
           have hlD:=HD23.out.lt
           obtain⟨d4,f4⟩:=HD23.out.df 4 (v:=.slice (some ⟨w21.heap.size,0,none⟩) 1 1) rfl
           go_wp2_with (first|(refine wpList_load_row rfl 49 _ rfl (w1.heap.size) rfl 49 #[.int .i64 18,.string ⟨#[]⟩,.string ⟨#[]⟩,.string ⟨#[]⟩,.slice p' (1+1) c',.int .i64 0,.slice none 0 0,.int .i64 x1] (0,0) _ (HD23.out.set 4 (.slice p' (1+1) c')) Tryz.underlying49 rfl rexpr_size ?_)|(refine wpList_store_row rfl 49 _ _ rfl (w.heap.size) _ rfl rfl 49 _ (HB23.out.row [w1.heap.size]) rexpr_size rfl (by simp[Value.oneCell']) ?_))
           refine bodyPost_ret (results_cell_row (p:=2) rfl _ _ (w.heap.size) 49 _ (0,0) _ rfl (setRow_heap _ _ _ _ _ _ (HB23.out.row [w1.heap.size])) Tryz.underlying49 rfl rexpr_size) rfl ?_
           clear hlD d4 f4
           exact RD.mk (⟨18,[],[],[],[x21,x22],0,[],x1⟩) s22 (by unfold Px.expr;refine Rel.bind hq1.out ?_;refine rel_unpl HSANE.out ?_;refine Rel.bind (a:={ Px.expr0 with kind:=18,op:=[],name:=[],variant:=[],names:=[x21,x22],num:=0,type:=[] }) ?_ (Rel.pure _ _);unfold refE;refine .bn hq2.out<|.bn hq4.out ?_;refine .bn hq9.out<|.bn hq11.out ?_;refine .bn hq13.out<|.bn hq15.out ?_;refine .bn hq17.out<|.bn hq19.out<|.by hq20.out ?_;exact rel_op2 hq21.out hq22.out) (HF23.out.jf [w1.heap.size,w.heap.size]) (HI23.out.f [w1.heap.size,w.heap.size] H.out) ⟨_,rfl,(by unfold exprQ strsQ typesS;exact rep_int.2 ⟨_,rfl,rep_str.2 ⟨_,rfl,rep_str.2 ⟨_,rfl,rep_str.2 ⟨_,rfl,rep_sl.2 ⟨_,_,rfl,(HRW.out.f [w1.heap.size,w.heap.size]),rep_int.2 ⟨_,rfl,rep_sl.2 ⟨_,_,rfl,RowV.nil _ _ _ _,rep_int.2 ⟨_,rfl,rep_nil.2 rfl⟩⟩⟩⟩⟩⟩⟩⟩)⟩
         ·skip
          obtain⟨hT,HB20,HI20,HF20,hz20⟩:=IR.st [w1.heap.size] HB19.out HF19.out hf hi
          try simp at hz20
          have HD20:=hid (HD19.out.k hf)
          clear hT hf hi
          have hlD:=HD20.out.lt
          go_wp2_with fail
          clear hlD
          refine(rnext_q c s1 [99,104,97,110] _ (by exact HI20.out.f [w1.heap.size] H.out)).mono ?_
          rintro e w24 (⟨s24,hq24,hl24,rfl,hf,hi⟩|⟨hq24,rfl,hf,hi⟩)
          ·skip
           obtain⟨hT,HB24,HI24,HF24,hz24⟩:=IR.st [w1.heap.size] HB20.out HF20.out hf hi
           try simp at hz24
           have HD24:=hid (HD20.out.k hf)
           clear hT hf hi
           have hlD:=HD24.out.lt
           obtain⟨d0,f0⟩:=HD24.out.df 0 (v:=.int .i64 0) rfl
           go_wp2_with fail
           clear hlD d0 f0
           refine(rtyped_any c n n s24 _ (by exact HI24.out.f [w1.heap.size] H.out) (by omega) (by omega)).mono ?_
           rintro e w25 ⟨v25,x25,s25,rfl,hq25,hf,hi,hv⟩
           obtain⟨cs,rfl,hrep⟩:=hv
           obtain⟨s25_0,p25_1,n25_1,c25_1,i25_2,rfl⟩:=hrep.c_typeQ
           have hV25:=hrep.k (N':=(fun k=>w.heap.size≤k∧k≠w.heap.size∧k≠w1.heap.size)) (Fr.refl [] _)
           obtain⟨hT,HB25,HI25,HF25,hz25⟩:=IR.st [w1.heap.size] HB24.out HF24.out hf hi
           try simp at hz25
           have HD25:Hid (Blk w25 (w1.heap.size) 49 #[.int .i64 19,zS,zS,zS,zN,zI,zN,.int .i64 x1]):=hid ((HD24.out.set 0 (.int .i64 19)).k hf)
           have HV25:=hid hV25
           clear hT hf hi hV25 hrep
           have hlD:=HD25.out.lt
           obtain⟨d6,f6⟩:=HD25.out.df 6 (v:=.slice none 0 0) rfl
           go_wp2_with (first|(refine wpList_load_row rfl 49 _ rfl (w1.heap.size) rfl 49 #[.int .i64 19,.string ⟨#[]⟩,.string ⟨#[]⟩,.string ⟨#[]⟩,.slice none 0 0,.int .i64 0,.slice (some ⟨w25.heap.size,0,none⟩) 1 1,.int .i64 x1] (0,0) _ (Blk.alloc (HD25.out.set 6 (.slice (some ⟨w25.heap.size,0,none⟩) 1 1)) _) Tryz.underlying49 rfl rexpr_size ?_)|(refine wpList_store_row rfl 49 _ _ rfl (w.heap.size) _ rfl rfl 49 _ (HB25.out.row [w1.heap.size]) rexpr_size rfl (by simp[Value.oneCell']) ?_))
           refine bodyPost_ret (results_cell_row (p:=2) rfl _ _ (w.heap.size) 49 _ (0,0) _ rfl (setRow_heap _ _ _ _ _ _ (HB25.out.row [w1.heap.size])) Tryz.underlying49 rfl rexpr_size) rfl ?_
           clear hlD d6 f6
           exact RD.mk (⟨19,[],[],[],[],0,[x25],x1⟩) s25 (by unfold Px.expr;refine Rel.bind hq1.out ?_;refine rel_unpl HSANE.out ?_;refine Rel.bind (a:={ Px.expr0 with kind:=19,op:=[],name:=[],variant:=[],names:=[],num:=0,type:=[x25] }) ?_ (Rel.pure _ _);unfold refE;refine .bn hq2.out<|.bn hq4.out ?_;refine .bn hq9.out<|.bn hq11.out ?_;refine .bn hq13.out<|.bn hq15.out ?_;refine .bn hq17.out<|.bn hq19.out ?_;refine .bn hq20.out<|.by hq24.out ?_;exact Rel.bind hq25.out (Rel.pure _ _)) (HF25.out.jf [w1.heap.size,w.heap.size]) (HI25.out.f [w1.heap.size,w.heap.size] H.out) ⟨_,rfl,(by unfold exprQ strsQ typesS;exact rep_int.2 ⟨_,rfl,rep_str.2 ⟨_,rfl,rep_str.2 ⟨_,rfl,rep_str.2 ⟨_,rfl,rep_sl.2 ⟨_,_,rfl,RowV.nil _ _ _ _,rep_int.2 ⟨_,rfl,rep_sl.2 ⟨_,_,rfl,(rowk_one (N:=(fun k=>w.heap.size≤k)) (f:=typeQ) (a:=x25) (w:=_) (g:=w25.heap.size) (xs:=[.string s25_0,.slice p25_1 n25_1 c25_1,.int .i64 i25_2]) (by repeat' (first|with_reducible refine Blk.new_at ?_|with_reducible refine Blk.alloc ?_ _|with_reducible refine Blk.other ?_ ?_ _|with_reducible refine Blk.setRow_other ?_ ?_|(simp;done)|(simp;omega))) (by (try simp);omega) rfl (HV25.out.f [w1.heap.size,w.heap.size])),rep_int.2 ⟨_,rfl,rep_nil.2 rfl⟩⟩⟩⟩⟩⟩⟩⟩)⟩
          ·skip
           obtain⟨hT,HB24,HI24,HF24,hz24⟩:=IR.st [w1.heap.size] HB20.out HF20.out hf hi
           try simp at hz24
           have HD24:=hid (HD20.out.k hf)
           clear hT hf hi
           have hlD:=HD24.out.lt
           go_wp2_with fail
           clear hlD
           refine(rnext_q c s1 [114,101,99,118] _ (by exact HI24.out.f [w1.heap.size] H.out)).mono ?_
           rintro e w26 (⟨s26,hq26,hl26,rfl,hf,hi⟩|⟨hq26,rfl,hf,hi⟩)
           ·skip
            obtain⟨hT,HB26,HI26,HF26,hz26⟩:=IR.st [w1.heap.size] HB24.out HF24.out hf hi
            try simp at hz26
            have HD26:=hid (HD24.out.k hf)
            clear hT hf hi
            have hlD:=HD26.out.lt
            obtain⟨d0,f0⟩:=HD26.out.df 0 (v:=.int .i64 0) rfl
            go_wp2_with fail
            clear hlD d0 f0
            refine(rname_any c s26 _ (by exact HI26.out.f [w1.heap.size] H.out)).mono ?_
            rintro e w27 ⟨_,x27,s27,rfl,hq27,hf,hi,rfl⟩
            obtain⟨hT,HB27,HI27,HF27,hz27⟩:=IR.st [w1.heap.size] HB26.out HF26.out hf hi
            try simp at hz27
            have HD27:Hid (Blk w27 (w1.heap.size) 49 #[.int .i64 20,zS,zS,zS,zN,zI,zN,.int .i64 x1]):=hid ((HD26.out.set 0 (.int .i64 20)).k hf)
            have hl27:=hq27.out.mu Shr.name
            clear hT hf hi
            have hlD:=HD27.out.lt
            obtain⟨d4,f4⟩:=HD27.out.df 4 (v:=.slice none 0 0) rfl
            go_wp2_with (first|(refine wpList_load_row rfl 49 _ rfl (w1.heap.size) rfl 49 #[.int .i64 20,.string ⟨#[]⟩,.string ⟨#[]⟩,.string ⟨#[]⟩,.slice (some ⟨w27.heap.size,0,none⟩) 1 1,.int .i64 0,.slice none 0 0,.int .i64 x1] (0,0) _ (Blk.alloc (HD27.out.set 4 (.slice (some ⟨w27.heap.size,0,none⟩) 1 1)) _) Tryz.underlying49 rfl rexpr_size ?_)|(refine wpList_store_row rfl 49 _ _ rfl (w.heap.size) _ rfl rfl 49 _ (HB27.out.row [w1.heap.size]) rexpr_size rfl (by simp[Value.oneCell']) ?_))
            refine bodyPost_ret (results_cell_row (p:=2) rfl _ _ (w.heap.size) 49 _ (0,0) _ rfl (setRow_heap _ _ _ _ _ _ (HB27.out.row [w1.heap.size])) Tryz.underlying49 rfl rexpr_size) rfl ?_
            clear hlD d4 f4
            exact RD.mk (⟨20,[],[],[],[x27],0,[],x1⟩) s27 (by unfold Px.expr;refine Rel.bind hq1.out ?_;refine rel_unpl HSANE.out ?_;refine Rel.bind (a:={ Px.expr0 with kind:=20,op:=[],name:=[],variant:=[],names:=[x27],num:=0,type:=[] }) ?_ (Rel.pure _ _);unfold refE;refine .bn hq2.out<|.bn hq4.out ?_;refine .bn hq9.out<|.bn hq11.out ?_;refine .bn hq13.out<|.bn hq15.out ?_;refine .bn hq17.out<|.bn hq19.out ?_;refine .bn hq20.out<|.bn hq24.out<|.by hq26.out ?_;exact rel_op1 hq27.out) (HF27.out.jf [w1.heap.size,w.heap.size]) (HI27.out.f [w1.heap.size,w.heap.size] H.out) ⟨_,rfl,(by unfold exprQ strsQ typesS;exact rep_int.2 ⟨_,rfl,rep_str.2 ⟨_,rfl,rep_str.2 ⟨_,rfl,rep_str.2 ⟨_,rfl,rep_sl.2 ⟨_,_,rfl,(strs_rowk (N:=(fun k=>w.heap.size≤k)) (l:=[x27]) (g:=w27.heap.size) (show Blk _ _ _ #[.string ⟨x27.toArray⟩] from (by repeat' (first|with_reducible refine Blk.new_at ?_|with_reducible refine Blk.alloc ?_ _|with_reducible refine Blk.other ?_ ?_ _|with_reducible refine Blk.setRow_other ?_ ?_|(simp;done)|(simp;omega)))) (by (try simp);omega) (by simp) (by simp)),rep_int.2 ⟨_,rfl,rep_sl.2 ⟨_,_,rfl,RowV.nil _ _ _ _,rep_int.2 ⟨_,rfl,rep_nil.2 rfl⟩⟩⟩⟩⟩⟩⟩⟩)⟩
           ·skip
            obtain⟨hT,HB26,HI26,HF26,hz26⟩:=IR.st [w1.heap.size] HB24.out HF24.out hf hi
            try simp at hz26
            have HD26:=hid (HD24.out.k hf)
            clear hT hf hi
            have hlD:=HD26.out.lt
            go_wp2_with fail
            clear hlD
            by_cases hk2:∃ t r,s1=RS.live (t :: r)∧t.kind=2
            ·obtain⟨t,r,rfl,hkk⟩:=hk2
             obtain⟨k,cap,ad,hb,ht,hk,hts,hc⟩:=HI26.out.cells
             have g0:=hb.cell 0
             have g1:=hb.cell 1
             have g3:=hb.cell 3
             simp at g0 g1 g3
             obtain⟨rfl,hcap,c0,c1,c2,c3⟩:=hc t r rfl
             have hlt:k<c.L.length:=by simp at hk;omega
             have hd:decide ((k:Int)<(c.L.length:Int))=true:=by simp;omega
             have hd2:decide (k<c.L.length)=true:=by simp;omega
             have hkq:((t.kind:Int) == 2)=true:=by rw[hkk];rfl
             have HQN:Hid (Rel c.size Px.numR (RS.live (t :: r)) true (RS.live (t :: r))):=hid (num_yes hkk)
             clear hb ht hk hts hc hkk
             go_wp2_with fail
             go_quiet (fail)
             generalize hwq:w26.drewN _=w28
             have HI28:Hid (IR c (RS.live (t :: r)) w28):=hid (by rw[← hwq];exact HI26.out.drewN _)
             have HF28:Hid (Fr [c.R] w w28):=hid (by rw[← hwq];exact HF26.out.drewN _)
             have HD28:Hid (Blk w28 (w1.heap.size) 49 #[zI,zS,zS,zS,zN,zI,zN,.int .i64 x1]):=hid (by rw[← hwq];exact HD26.out)
             have HB28:Hid (Blk w28 (w.heap.size) 49 #[zI,zS,zS,zS,zN,zI,zN,zI]):=hid (by rw[← hwq];exact HB26.out)
             have hz28:w26.heap.size≤w28.heap.size:=by rw[← hwq];exact Nat.le_refl _
             clear hwq
             clear g0 g1 g3 c0 c1 c2 c3 hd hd2 hkq hlt hcap
             have hlD:=HD28.out.lt
             obtain⟨d0,f0⟩:=HD28.out.df 0 (v:=.int .i64 0) rfl
             go_wp2_with fail
             clear hlD d0 f0
             refine(rnumber_any c (RS.live (t :: r)) _ (by exact HI28.out.f [w1.heap.size] H.out)).mono ?_
             rintro e w29 ⟨_,x29,s29,rfl,hq29,hf,hi,rfl⟩
             obtain⟨hT,HB29,HI29,HF29,hz29⟩:=IR.st [w1.heap.size] HB28.out HF28.out hf hi
             try simp at hz29
             have HD29:Hid (Blk w29 (w1.heap.size) 49 #[.int .i64 1,zS,zS,zS,zN,zI,zN,.int .i64 x1]):=hid ((HD28.out.set 0 (.int .i64 1)).k hf)
             have hl29:=hq29.out.mu Shr.number
             clear hT hf hi
             have hlD:=HD29.out.lt
             obtain⟨d5,f5⟩:=HD29.out.df 5 (v:=.int .i64 0) rfl
             go_wp2_with (first|(refine wpList_load_row rfl 49 _ rfl (w1.heap.size) rfl 49 #[.int .i64 1,.string ⟨#[]⟩,.string ⟨#[]⟩,.string ⟨#[]⟩,.slice none 0 0,.int .i64 x29,.slice none 0 0,.int .i64 x1] (0,0) _ (HD29.out.set 5 (.int .i64 x29)) Tryz.underlying49 rfl rexpr_size ?_)|(refine wpList_store_row rfl 49 _ _ rfl (w.heap.size) _ rfl rfl 49 _ (HB29.out.row [w1.heap.size]) rexpr_size rfl (by simp[Value.oneCell']) ?_))
             refine bodyPost_ret (results_cell_row (p:=2) rfl _ _ (w.heap.size) 49 _ (0,0) _ rfl (setRow_heap _ _ _ _ _ _ (HB29.out.row [w1.heap.size])) Tryz.underlying49 rfl rexpr_size) rfl ?_
             clear hlD d5 f5
             exact RD.mk (⟨1,[],[],[],[],x29,[],x1⟩) s29 (by unfold Px.expr;refine Rel.bind hq1.out ?_;refine rel_unpl HSANE.out ?_;refine Rel.bind (a:={ Px.expr0 with kind:=1,op:=[],name:=[],variant:=[],names:=[],num:=x29,type:=[] }) ?_ (Rel.pure _ _);unfold refE;refine .bn hq2.out<|.bn hq4.out ?_;refine .bn hq9.out<|.bn hq11.out ?_;refine .bn hq13.out<|.bn hq15.out ?_;refine .bn hq17.out<|.bn hq19.out ?_;refine .bn hq20.out<|.bn hq24.out ?_;refine .bn hq26.out<|.by HQN.out ?_;exact Rel.bind hq29.out (Rel.pure _ _)) (HF29.out.jf [w1.heap.size,w.heap.size]) (HI29.out.f [w1.heap.size,w.heap.size] H.out) ⟨_,rfl,(by unfold exprQ strsQ typesS;exact rep_int.2 ⟨_,rfl,rep_str.2 ⟨_,rfl,rep_str.2 ⟨_,rfl,rep_str.2 ⟨_,rfl,rep_sl.2 ⟨_,_,rfl,RowV.nil _ _ _ _,rep_int.2 ⟨_,rfl,rep_sl.2 ⟨_,_,rfl,RowV.nil _ _ _ _,rep_int.2 ⟨_,rfl,rep_nil.2 rfl⟩⟩⟩⟩⟩⟩⟩⟩)⟩
            ·have HQN:Hid (Rel c.size Px.numR s1 false s1):=hid (num_no (fun t r e h=>hk2 ⟨t,r,e,h⟩))
             have HK2:=hid hk2
             clear hk2
             go_wp2_with fail
             cases s1 with
             | dead e o =>
              obtain⟨k,cap,ad,hb,ht,hk,he,hc⟩:=HI26.out.dcells
              have g3:=hb.cell 3
              simp at g3
              have hd:((e:Int) == 0)=false:=by simp;omega
              clear hb ht hk he hc
              go_quiet (fail)
              generalize hwq:w26.drewN _=w30
              have HI30:Hid (IR c (RS.dead e o) w30):=hid (by rw[← hwq];exact HI26.out.drewN _)
              have HF30:Hid (Fr [c.R] w w30):=hid (by rw[← hwq];exact HF26.out.drewN _)
              have HD30:Hid (Blk w30 (w1.heap.size) 49 #[zI,zS,zS,zS,zN,zI,zN,.int .i64 x1]):=hid (by rw[← hwq];exact HD26.out)
              have HB30:Hid (Blk w30 (w.heap.size) 49 #[zI,zS,zS,zS,zN,zI,zN,zI]):=hid (by rw[← hwq];exact HB26.out)
              have hz30:w26.heap.size≤w30.heap.size:=by rw[← hwq];exact Nat.le_refl _
              clear hwq
              clear g3 hd
              go_wp2_with fail
              have hlD:=HD30.out.lt
              have d0:=HD30.out.at 0 (v:=.int .i64 0) rfl
              have d1:=HD30.out.at 1 (v:=.string ⟨#[]⟩) rfl
              have d2:=HD30.out.at 2 (v:=.string ⟨#[]⟩) rfl
              have d3:=HD30.out.at 3 (v:=.string ⟨#[]⟩) rfl
              have d4:=HD30.out.at 4 (v:=.slice none 0 0) rfl
              have d5:=HD30.out.at 5 (v:=.int .i64 0) rfl
              have d6:=HD30.out.at 6 (v:=.slice none 0 0) rfl
              have d7:=HD30.out.at 7 (v:=.int .i64 x1) rfl
              go_region_with (first|(go_simp;go_at_call 24;refine(rname_any c (RS.dead e o) _ (by exact HI30.out.f [] H.out)).mono ?_;rintro e w31 hp;obtain⟨v31,x31,s31,rfl,hq31,hf31,hi31,hv31⟩:=hp;obtain rfl:=hv31;have hx31:Fr [c.R] w30 w31:=Fr.trans frk hf31;have HD31:=hid (HD30.out.keep hx31 (by first|(simp;done)|omega|(simp;omega)));have HX31:=hid hx31;have HI31:=hid hi31;have hlx31:w1.heap.size<w31.heap.size:=HD31.out.lt;have k0:=HD31.out.at 0 (v:=.int .i64 0) rfl;have k1:=HD31.out.at 1 (v:=.string ⟨#[]⟩) rfl;have k2:=HD31.out.at 2 (v:=.string ⟨#[]⟩) rfl;have k3:=HD31.out.at 3 (v:=.string ⟨#[]⟩) rfl;have k4:=HD31.out.at 4 (v:=.slice none 0 0) rfl;have k5:=HD31.out.at 5 (v:=.int .i64 0) rfl;have k6:=HD31.out.at 6 (v:=.slice none 0 0) rfl;have k7:=HD31.out.at 7 (v:=.int .i64 x1) rfl;clear hf31 hi31 hx31)|(go_simp;go_at_call 142;refine(rbegun_any c x31 x1 s31 _ (by exact HI31.out.f [] H.out)).mono ?_;rintro e w32 hp;obtain⟨v32,x32,s32,rfl,hq32,hf32,hi32,hv32⟩:=hp;have hx32:Fr [c.R] w31 w32:=Fr.trans frk hf32;obtain⟨cs,rfl,hrep⟩:=hv32;obtain⟨i32_0,s32_1,s32_2,s32_3,p32_4,n32_4,c32_4,i32_5,p32_6,n32_6,c32_6,i32_7,rfl⟩:=hrep.c_exprQ;have hX32:Fr [c.R] w30 w32:=HX31.out.trans hx32;have HB32:=hid (HB30.out.keep hX32 (by first|(simp;done)|omega|(simp;omega)));have HX32:=hid hX32;have HI32:=hid hi32;have HR32:=hid hrep;have hhx31:w30.heap.size≤w31.heap.size:=HX31.out.size;have b0:=HB32.out.at 0 (v:=.int .i64 0) rfl;have m0:w32.frozen? ⟨w.heap.size,0,none⟩=false:=HB32.out.frozen 0;have b1:=HB32.out.at 1 (v:=.string ⟨#[]⟩) rfl;have m1:w32.frozen? ⟨w.heap.size,1,none⟩=false:=HB32.out.frozen 1;have b2:=HB32.out.at 2 (v:=.string ⟨#[]⟩) rfl;have m2:w32.frozen? ⟨w.heap.size,2,none⟩=false:=HB32.out.frozen 2;have b3:=HB32.out.at 3 (v:=.string ⟨#[]⟩) rfl;have m3:w32.frozen? ⟨w.heap.size,3,none⟩=false:=HB32.out.frozen 3;have b4:=HB32.out.at 4 (v:=.slice none 0 0) rfl;have m4:w32.frozen? ⟨w.heap.size,4,none⟩=false:=HB32.out.frozen 4;have b5:=HB32.out.at 5 (v:=.int .i64 0) rfl;have m5:w32.frozen? ⟨w.heap.size,5,none⟩=false:=HB32.out.frozen 5;have b6:=HB32.out.at 6 (v:=.slice none 0 0) rfl;have m6:w32.frozen? ⟨w.heap.size,6,none⟩=false:=HB32.out.frozen 6;have b7:=HB32.out.at 7 (v:=.int .i64 0) rfl;have m7:w32.frozen? ⟨w.heap.size,7,none⟩=false:=HB32.out.frozen 7;clear hf32 hi32 hx32 hX32 hrep))
              all_goals try go_wp2_with fail
              all_goals
               refine bodyPost_ret (v:=.agg #[.int .i64 i32_0,.string s32_1,.string s32_2,.string s32_3,.slice p32_4 n32_4 c32_4,.int .i64 i32_5,.slice p32_6 n32_6 c32_6,.int .i64 i32_7]) (by simp[results,Tryz.results120,go_sem,b0,m0,b1,m1,b2,m2,b3,m3,b4,m4,b5,m5,b6,m6,b7,m7]) rfl ?_
               obtain⟨e9,hqe,hqp⟩:=Rel.unbind hq32.out
               have HQE:=hid hqe;have HQP:=hid hqp;clear hqe hqp
               exact RD.mk (x32) s32 (by unfold Px.expr;refine Rel.bind hq1.out ?_;refine rel_unpl HSANE.out ?_;refine Rel.bind (a:=e9) ?_ HQP.out;unfold refE;refine .bn hq2.out<|.bn hq4.out ?_;refine .bn hq9.out<|.bn hq11.out ?_;refine .bn hq13.out<|.bn hq15.out ?_;refine .bn hq17.out<|.bn hq19.out ?_;refine .bn hq20.out<|.bn hq24.out ?_;refine .bn hq26.out<|.bn HQN.out ?_;exact Rel.bind hq31.out HQE.out) (HF30.out.join (X:=[w1.heap.size,w.heap.size]) (Fr.trans (HX32.out.mono (fun k _ hk=>by simp at hk;simp[hk])) frk) (by first|(simp;done)|omega|(simp;omega))) (HI32.out.f [w1.heap.size,w.heap.size] H.out) ⟨_,rfl,(HR32.out.f [w1.heap.size,w.heap.size])⟩
             | live ts =>
              obtain⟨k,cap,ad,hb,ht,hk,hts,hc⟩:=HI26.out.cells
              have g0:=hb.cell 0
              have g1:=hb.cell 1
              have g3:=hb.cell 3
              simp at g0 g1 g3
              cases ts with
              | nil =>
               have hkk:k=c.L.length:=by simpa using hk
               have hd:decide ((k:Int)<(c.L.length:Int))=false:=by simp;omega
               have hd2:decide (k<c.L.length)=false:=by simp;omega
               clear hb ht hk hts hc hkk
               go_quiet (fail)
               generalize hwq:w26.drewN _=w33
               have HI33:Hid (IR c (RS.live []) w33):=hid (by rw[← hwq];exact HI26.out.drewN _)
               have HF33:Hid (Fr [c.R] w w33):=hid (by rw[← hwq];exact HF26.out.drewN _)
               have HD33:Hid (Blk w33 (w1.heap.size) 49 #[zI,zS,zS,zS,zN,zI,zN,.int .i64 x1]):=hid (by rw[← hwq];exact HD26.out)
               have HB33:Hid (Blk w33 (w.heap.size) 49 #[zI,zS,zS,zS,zN,zI,zN,zI]):=hid (by rw[← hwq];exact HB26.out)
               have hz33:w26.heap.size≤w33.heap.size:=by rw[← hwq];exact Nat.le_refl _
               clear hwq
               clear g0 g1 g3 hd hd2
               go_wp2_with fail
               have hlD:=HD33.out.lt
               have d0:=HD33.out.at 0 (v:=.int .i64 0) rfl
               have d1:=HD33.out.at 1 (v:=.string ⟨#[]⟩) rfl
               have d2:=HD33.out.at 2 (v:=.string ⟨#[]⟩) rfl
               have d3:=HD33.out.at 3 (v:=.string ⟨#[]⟩) rfl
               have d4:=HD33.out.at 4 (v:=.slice none 0 0) rfl
               have d5:=HD33.out.at 5 (v:=.int .i64 0) rfl
               have d6:=HD33.out.at 6 (v:=.slice none 0 0) rfl
               have d7:=HD33.out.at 7 (v:=.int .i64 x1) rfl
               go_region_with (first|(go_simp;go_at_call 24;refine(rname_any c (RS.live []) _ (by exact HI33.out.f [] H.out)).mono ?_;rintro e w34 hp;obtain⟨v34,x34,s34,rfl,hq34,hf34,hi34,hv34⟩:=hp;obtain rfl:=hv34;have hx34:Fr [c.R] w33 w34:=Fr.trans frk hf34;have HD34:=hid (HD33.out.keep hx34 (by first|(simp;done)|omega|(simp;omega)));have HX34:=hid hx34;have HI34:=hid hi34;have hlx34:w1.heap.size<w34.heap.size:=HD34.out.lt;have k0:=HD34.out.at 0 (v:=.int .i64 0) rfl;have k1:=HD34.out.at 1 (v:=.string ⟨#[]⟩) rfl;have k2:=HD34.out.at 2 (v:=.string ⟨#[]⟩) rfl;have k3:=HD34.out.at 3 (v:=.string ⟨#[]⟩) rfl;have k4:=HD34.out.at 4 (v:=.slice none 0 0) rfl;have k5:=HD34.out.at 5 (v:=.int .i64 0) rfl;have k6:=HD34.out.at 6 (v:=.slice none 0 0) rfl;have k7:=HD34.out.at 7 (v:=.int .i64 x1) rfl;clear hf34 hi34 hx34)|(go_simp;go_at_call 142;refine(rbegun_any c x34 x1 s34 _ (by exact HI34.out.f [] H.out)).mono ?_;rintro e w35 hp;obtain⟨v35,x35,s35,rfl,hq35,hf35,hi35,hv35⟩:=hp;have hx35:Fr [c.R] w34 w35:=Fr.trans frk hf35;obtain⟨cs,rfl,hrep⟩:=hv35;obtain⟨i35_0,s35_1,s35_2,s35_3,p35_4,n35_4,c35_4,i35_5,p35_6,n35_6,c35_6,i35_7,rfl⟩:=hrep.c_exprQ;have hX35:Fr [c.R] w33 w35:=HX34.out.trans hx35;have HB35:=hid (HB33.out.keep hX35 (by first|(simp;done)|omega|(simp;omega)));have HX35:=hid hX35;have HI35:=hid hi35;have HR35:=hid hrep;have hhx34:w33.heap.size≤w34.heap.size:=HX34.out.size;have b0:=HB35.out.at 0 (v:=.int .i64 0) rfl;have m0:w35.frozen? ⟨w.heap.size,0,none⟩=false:=HB35.out.frozen 0;have b1:=HB35.out.at 1 (v:=.string ⟨#[]⟩) rfl;have m1:w35.frozen? ⟨w.heap.size,1,none⟩=false:=HB35.out.frozen 1;have b2:=HB35.out.at 2 (v:=.string ⟨#[]⟩) rfl;have m2:w35.frozen? ⟨w.heap.size,2,none⟩=false:=HB35.out.frozen 2;have b3:=HB35.out.at 3 (v:=.string ⟨#[]⟩) rfl;have m3:w35.frozen? ⟨w.heap.size,3,none⟩=false:=HB35.out.frozen 3;have b4:=HB35.out.at 4 (v:=.slice none 0 0) rfl;have m4:w35.frozen? ⟨w.heap.size,4,none⟩=false:=HB35.out.frozen 4;have b5:=HB35.out.at 5 (v:=.int .i64 0) rfl;have m5:w35.frozen? ⟨w.heap.size,5,none⟩=false:=HB35.out.frozen 5;have b6:=HB35.out.at 6 (v:=.slice none 0 0) rfl;have m6:w35.frozen? ⟨w.heap.size,6,none⟩=false:=HB35.out.frozen 6;have b7:=HB35.out.at 7 (v:=.int .i64 0) rfl;have m7:w35.frozen? ⟨w.heap.size,7,none⟩=false:=HB35.out.frozen 7;clear hf35 hi35 hx35 hX35 hrep))
               all_goals try go_wp2_with fail
               all_goals
                refine bodyPost_ret (v:=.agg #[.int .i64 i35_0,.string s35_1,.string s35_2,.string s35_3,.slice p35_4 n35_4 c35_4,.int .i64 i35_5,.slice p35_6 n35_6 c35_6,.int .i64 i35_7]) (by simp[results,Tryz.results120,go_sem,b0,m0,b1,m1,b2,m2,b3,m3,b4,m4,b5,m5,b6,m6,b7,m7]) rfl ?_
                obtain⟨e9,hqe,hqp⟩:=Rel.unbind hq35.out
                have HQE:=hid hqe;have HQP:=hid hqp;clear hqe hqp
                exact RD.mk (x35) s35 (by unfold Px.expr;refine Rel.bind hq1.out ?_;refine rel_unpl HSANE.out ?_;refine Rel.bind (a:=e9) ?_ HQP.out;unfold refE;refine .bn hq2.out<|.bn hq4.out ?_;refine .bn hq9.out<|.bn hq11.out ?_;refine .bn hq13.out<|.bn hq15.out ?_;refine .bn hq17.out<|.bn hq19.out ?_;refine .bn hq20.out<|.bn hq24.out ?_;refine .bn hq26.out<|.bn HQN.out ?_;exact Rel.bind hq34.out HQE.out) (HF33.out.join (X:=[w1.heap.size,w.heap.size]) (Fr.trans (HX35.out.mono (fun k _ hk=>by simp at hk;simp[hk])) frk) (by first|(simp;done)|omega|(simp;omega))) (HI35.out.f [w1.heap.size,w.heap.size] H.out) ⟨_,rfl,(HR35.out.f [w1.heap.size,w.heap.size])⟩
              | cons t r =>
               obtain⟨rfl,hcap,c0,c1,c2,c3⟩:=hc t r rfl
               have hlt:k<c.L.length:=by simp at hk;omega
               have hd:decide ((k:Int)<(c.L.length:Int))=true:=by simp;omega
               have hd2:decide (k<c.L.length)=true:=by simp;omega
               have hkq:((t.kind:Int) == 2)=false:=by
                have:t.kind≠2:=fun h=>HK2.out ⟨t,r,rfl,h⟩
                simp;omega
               clear hb ht hk hts hc
               go_quiet (fail)
               generalize hwq:w26.drewN _=w36
               have HI36:Hid (IR c (RS.live (t :: r)) w36):=hid (by rw[← hwq];exact HI26.out.drewN _)
               have HF36:Hid (Fr [c.R] w w36):=hid (by rw[← hwq];exact HF26.out.drewN _)
               have HD36:Hid (Blk w36 (w1.heap.size) 49 #[zI,zS,zS,zS,zN,zI,zN,.int .i64 x1]):=hid (by rw[← hwq];exact HD26.out)
               have HB36:Hid (Blk w36 (w.heap.size) 49 #[zI,zS,zS,zS,zN,zI,zN,zI]):=hid (by rw[← hwq];exact HB26.out)
               have hz36:w26.heap.size≤w36.heap.size:=by rw[← hwq];exact Nat.le_refl _
               clear hwq
               clear g0 g1 g3 c0 c1 c2 c3 hd hd2 hkq hlt hcap
               go_wp2_with fail
               have hlD:=HD36.out.lt
               have d0:=HD36.out.at 0 (v:=.int .i64 0) rfl
               have d1:=HD36.out.at 1 (v:=.string ⟨#[]⟩) rfl
               have d2:=HD36.out.at 2 (v:=.string ⟨#[]⟩) rfl
               have d3:=HD36.out.at 3 (v:=.string ⟨#[]⟩) rfl
               have d4:=HD36.out.at 4 (v:=.slice none 0 0) rfl
               have d5:=HD36.out.at 5 (v:=.int .i64 0) rfl
               have d6:=HD36.out.at 6 (v:=.slice none 0 0) rfl
               have d7:=HD36.out.at 7 (v:=.int .i64 x1) rfl
               go_region_with (first|(go_simp;go_at_call 24;refine(rname_any c (RS.live (t :: r)) _ (by exact HI36.out.f [] H.out)).mono ?_;rintro e w37 hp;obtain⟨v37,x37,s37,rfl,hq37,hf37,hi37,hv37⟩:=hp;obtain rfl:=hv37;have hx37:Fr [c.R] w36 w37:=Fr.trans frk hf37;have HD37:=hid (HD36.out.keep hx37 (by first|(simp;done)|omega|(simp;omega)));have HX37:=hid hx37;have HI37:=hid hi37;have hlx37:w1.heap.size<w37.heap.size:=HD37.out.lt;have k0:=HD37.out.at 0 (v:=.int .i64 0) rfl;have k1:=HD37.out.at 1 (v:=.string ⟨#[]⟩) rfl;have k2:=HD37.out.at 2 (v:=.string ⟨#[]⟩) rfl;have k3:=HD37.out.at 3 (v:=.string ⟨#[]⟩) rfl;have k4:=HD37.out.at 4 (v:=.slice none 0 0) rfl;have k5:=HD37.out.at 5 (v:=.int .i64 0) rfl;have k6:=HD37.out.at 6 (v:=.slice none 0 0) rfl;have k7:=HD37.out.at 7 (v:=.int .i64 x1) rfl;clear hf37 hi37 hx37)|(go_simp;go_at_call 142;refine(rbegun_any c x37 x1 s37 _ (by exact HI37.out.f [] H.out)).mono ?_;rintro e w38 hp;obtain⟨v38,x38,s38,rfl,hq38,hf38,hi38,hv38⟩:=hp;have hx38:Fr [c.R] w37 w38:=Fr.trans frk hf38;obtain⟨cs,rfl,hrep⟩:=hv38;obtain⟨i38_0,s38_1,s38_2,s38_3,p38_4,n38_4,c38_4,i38_5,p38_6,n38_6,c38_6,i38_7,rfl⟩:=hrep.c_exprQ;have hX38:Fr [c.R] w36 w38:=HX37.out.trans hx38;have HB38:=hid (HB36.out.keep hX38 (by first|(simp;done)|omega|(simp;omega)));have HX38:=hid hX38;have HI38:=hid hi38;have HR38:=hid hrep;have hhx37:w36.heap.size≤w37.heap.size:=HX37.out.size;have b0:=HB38.out.at 0 (v:=.int .i64 0) rfl;have m0:w38.frozen? ⟨w.heap.size,0,none⟩=false:=HB38.out.frozen 0;have b1:=HB38.out.at 1 (v:=.string ⟨#[]⟩) rfl;have m1:w38.frozen? ⟨w.heap.size,1,none⟩=false:=HB38.out.frozen 1;have b2:=HB38.out.at 2 (v:=.string ⟨#[]⟩) rfl;have m2:w38.frozen? ⟨w.heap.size,2,none⟩=false:=HB38.out.frozen 2;have b3:=HB38.out.at 3 (v:=.string ⟨#[]⟩) rfl;have m3:w38.frozen? ⟨w.heap.size,3,none⟩=false:=HB38.out.frozen 3;have b4:=HB38.out.at 4 (v:=.slice none 0 0) rfl;have m4:w38.frozen? ⟨w.heap.size,4,none⟩=false:=HB38.out.frozen 4;have b5:=HB38.out.at 5 (v:=.int .i64 0) rfl;have m5:w38.frozen? ⟨w.heap.size,5,none⟩=false:=HB38.out.frozen 5;have b6:=HB38.out.at 6 (v:=.slice none 0 0) rfl;have m6:w38.frozen? ⟨w.heap.size,6,none⟩=false:=HB38.out.frozen 6;have b7:=HB38.out.at 7 (v:=.int .i64 0) rfl;have m7:w38.frozen? ⟨w.heap.size,7,none⟩=false:=HB38.out.frozen 7;clear hf38 hi38 hx38 hX38 hrep))
               all_goals try go_wp2_with fail
               all_goals
                refine bodyPost_ret (v:=.agg #[.int .i64 i38_0,.string s38_1,.string s38_2,.string s38_3,.slice p38_4 n38_4 c38_4,.int .i64 i38_5,.slice p38_6 n38_6 c38_6,.int .i64 i38_7]) (by simp[results,Tryz.results120,go_sem,b0,m0,b1,m1,b2,m2,b3,m3,b4,m4,b5,m5,b6,m6,b7,m7]) rfl ?_
                obtain⟨e9,hqe,hqp⟩:=Rel.unbind hq38.out
                have HQE:=hid hqe;have HQP:=hid hqp;clear hqe hqp
                exact RD.mk (x38) s38 (by unfold Px.expr;refine Rel.bind hq1.out ?_;refine rel_unpl HSANE.out ?_;refine Rel.bind (a:=e9) ?_ HQP.out;unfold refE;refine .bn hq2.out<|.bn hq4.out ?_;refine .bn hq9.out<|.bn hq11.out ?_;refine .bn hq13.out<|.bn hq15.out ?_;refine .bn hq17.out<|.bn hq19.out ?_;refine .bn hq20.out<|.bn hq24.out ?_;refine .bn hq26.out<|.bn HQN.out ?_;exact Rel.bind hq37.out HQE.out) (HF36.out.join (X:=[w1.heap.size,w.heap.size]) (Fr.trans (HX38.out.mono (fun k _ hk=>by simp at hk;simp[hk])) frk) (by first|(simp;done)|omega|(simp;omega))) (HI38.out.f [w1.heap.size,w.heap.size] H.out) ⟨_,rfl,(HR38.out.f [w1.heap.size,w.heap.size])⟩
end Go.Proofs.YtghohohagbbajaaGreatDoor
