/- part of the proof -/
import Derived.Test.YtghohohagbbajaaGreatDoorYKC
import Derived.Test.YtghohohagbbajaaGreatDoorYK10
import Derived.Test.YtghohohagbbajaaGreatDoorYGC
set_option linter.unusedVariables false
set_option linter.unusedSimpArgs false
set_option linter.unusedSectionVars false
namespace Go.Proofs.YtghohohagbbajaaGreatDoor
open Go.RowKit Go.Lib
open Lx (Tk)
open Px (Txt TyE VarD DataD TraitD BoundD ImplD ArgD ExprD StmtD ArmD FuncD ModD)
theorem fail_mu {sz:Nat} {s s':RS} (h1:∀ ts,s=.live ts→s'=.dead (errOf ts) (offOf sz ts)) (h2:∀ e o,s=.dead e o→s'=s):s'.mu≤s.mu:=by
 cases s with
 | dead e o=>rw[h2 e o rfl];exact Nat.le_refl _
 | live ts=>rw[h1 ts rfl];simp[RS.mu]
theorem acc_true {sz:Nat} {x:Txt} {ts:List Tk} {s':RS} (h:Rel sz (Px.accept [x]) (.live ts) true s'):Px.word ts=x∧s'=.live ts.tail:=by
 by_cases hw:Px.word ts=x
 ·simp only[Rel,accept_at hw] at h
  exact⟨hw,h.2⟩
 ·simp only[Rel,accept_not hw] at h
  exact absurd h.1 (by simp)
theorem acc_false {sz:Nat} {x:Txt} {ts:List Tk} {s':RS} (h:Rel sz (Px.accept [x]) (.live ts) false s'):Px.word ts≠x:=by
 intro hw
 simp only[Rel,accept_at hw] at h
 exact absurd h.1 (by simp)
theorem exp_b {β:Type} (ws:List Txt) (f:Txt→Px.Rd β) (ts:List Tk):(Px.expect ws >>= f) ts=if ws.contains (Px.word ts) then f (Px.word ts) ts.tail else .bad ts:=by
 show Px.Rd.bind _ _ ts=_
 by_cases h:ws.contains (Px.word ts)=true
 ·simp only[Px.Rd.bind,Px.expect,if_pos h]
 ·simp only[Px.Rd.bind,Px.expect,if_neg h]
theorem ck_at {ts:List Tk} : Px.captureKind ts=if ([[109,111,118,101],[38],[38,33]]:List Txt).contains (Px.word ts) then (if Px.word ts=[38] then .ok 1 ts.tail else if Px.word ts=[38,33] then .ok 2 ts.tail else .ok 0 ts.tail) else .bad ts:=by
 unfold Px.captureKind
 rw[exp_b]
 split
 ·by_cases h1:Px.word ts=[38]
  ·rw[if_pos h1,if_pos h1];rfl
  ·rw[if_neg h1,if_neg h1]
   by_cases h2:Px.word ts=[38,33]
   ·rw[if_pos h2,if_pos h2];rfl
   ·rw[if_neg h2,if_neg h2];rfl
 ·rfl
theorem ck_move {sz:Nat} {s s':RS} (h:Rel sz (Px.accept [[109,111,118,101]]) s true s'):Rel sz Px.captureKind s 0 s':=by
 cases s with
 | dead e o=>exact h
 | live ts =>
  obtain⟨hw,rfl⟩:=acc_true h
  have hh:Px.captureKind ts=.ok 0 ts.tail:=by rw[ck_at,hw];rfl
  simp only[Rel,hh]
  exact⟨trivial,trivial⟩
theorem ck_share {sz:Nat} {s s':RS} (h:Rel sz (Px.accept [[38]]) s true s'):Rel sz Px.captureKind s 1 s':=by
 cases s with
 | dead e o=>exact h
 | live ts =>
  obtain⟨hw,rfl⟩:=acc_true h
  have hh:Px.captureKind ts=.ok 1 ts.tail:=by rw[ck_at,hw];rfl
  simp only[Rel,hh]
  exact⟨trivial,trivial⟩
theorem ck_excl {sz:Nat} {s s':RS} (h:Rel sz (Px.accept [[38,33]]) s true s'):Rel sz Px.captureKind s 2 s':=by
 cases s with
 | dead e o=>exact h
 | live ts =>
  obtain⟨hw,rfl⟩:=acc_true h
  have hh:Px.captureKind ts=.ok 2 ts.tail:=by rw[ck_at,hw];rfl
  simp only[Rel,hh]
  exact⟨trivial,trivial⟩
theorem ck_none {sz:Nat} {s s':RS} {a:Nat} (h1:Rel sz (Px.accept [[109,111,118,101]]) s false s) (h2:Rel sz (Px.accept [[38]]) s false s) (h3:Rel sz (Px.accept [[38,33]]) s false s) (hl:∀ ts,s=.live ts→s'=.dead (errOf ts) (offOf sz ts)) (hd:∀ e o,s=.dead e o→s'=s):Rel sz Px.captureKind s a s':=by
 cases s with
 | dead e o=>exact hd e o rfl
 | live ts =>
  have e1:=acc_false h1
  have e2:=acc_false h2
  have e3:=acc_false h3
  have hh:Px.captureKind ts=.bad ts:=by
   rw[ck_at,if_neg]
   simp[e1,e2,e3]
  simp only[Rel,hh]
  exact hl ts rfl
set_option maxRecDepth 100000 in
set_option maxHeartbeats 1600000 in
theorem rarg_any (c:RCtx) (s:RS) (w:World) (h:IR c s w) (n:Nat) (hm:s.mu≤n) :
  Calls Tryz.prog 98 #[.pointer (some ⟨c.R,0,none⟩)] w (RD c w (okAgg argQ) (Px.arg c.size n) s):=by
 have H:=hid h
 have HR0:=H.out.lt.1
 clear h
 go_enter Tryz.func98,Tryz.ntmps98
 go_wp2_with fail
 refine(rat_any c s _ (by exact H.out.f [] H.out)).mono ?_
 rintro e w1 ⟨_,x1,s1,rfl,hq1,hf,hi,rfl⟩
 have hT:Fr [c.R] w w1:=Fr.trans frk hf.wide
 have hz1:=hf.size;try simp at hz1
 have HB1:Hid (Blk w1 (w.heap.size) 155 #[zS,zS,zN,zI,zI,zI]):=hid ((Blk.new w _ _).keep hf (by first|(simp;done)|omega|(simp;omega)))
 have HI1:=hid hi
 have HF1:=hid ((Fr.refl [c.R] w).j hT)
 have hl1:=hq1.out.mu (Shr.offset _)
 clear hT hf hi
 go_wp2_with fail
 refine(rname_any c s1 _ (by exact HI1.out.f [] H.out)).mono ?_
 rintro e w2 ⟨_,x2,s2,rfl,hq2,hf,hi,rfl⟩
 obtain⟨hT,HB2,HI2,HF2,hz2⟩:=IR.st [] HB1.out HF1.out hf hi
 try simp at hz2
 have hl2:=hq2.out.mu Shr.name
 clear hT hf hi
 have hneDB:w2.heap.size≠w.heap.size:=by omega
 have hneBD:=hneDB.symm
 go_wp2_with fail
 refine(rneed_q c s2 [58] _ (by exact HI2.out.f [w2.heap.size] H.out)).mono ?_
 rintro e w3 ⟨rfl,x3,s3,hq3,hf,hi⟩
 obtain⟨hT,HB3,HI3,HF3,hz3⟩:=IR.st [w2.heap.size] HB2.out HF2.out hf hi
 try simp at hz3
 have HD3:Hid (Blk w3 (w2.heap.size) 155 #[.string ⟨x2.toArray⟩,zS,zN,zI,zI,.int .i64 x1]):=hid ((Blk.new_at (by simp)).k hf)
 have hl3:=hq3.out.mu (Shr.expect _)
 clear hT hf hi
 have hlD:=HD3.out.lt
 go_wp2_with fail
 clear hlD
 refine(rtyped_any c n n s3 _ (by exact HI3.out.f [w2.heap.size] H.out) (by omega) (by omega)).mono ?_
 rintro e w4 ⟨v4,x4,s4,rfl,hq4,hf,hi,hv⟩
 obtain⟨cs,rfl,hrep⟩:=hv
 obtain⟨s4_0,p4_1,n4_1,c4_1,i4_2,rfl⟩:=hrep.c_typeQ
 have hV4:=hrep.k (N':=(fun k=>w.heap.size≤k∧k≠w.heap.size∧k≠w2.heap.size)) (Fr.refl [] _)
 obtain⟨hT,HB4,HI4,HF4,hz4⟩:=IR.st [w2.heap.size] HB3.out HF3.out hf hi
 try simp at hz4
 have HD4:=hid (HD3.out.k hf)
 have HV4:=hid hV4
 have hl4:=hq4.out.mu (shr_typeF _ _)
 clear hT hf hi hV4 hrep
 have hlB:w.heap.size<w4.heap.size:=by omega
 have hlD:=HD4.out.lt
 have d0:=HD4.out.at 0 (v:=.string ⟨x2.toArray⟩) rfl
 obtain⟨d1,f1⟩:=HD4.out.df 1 (v:=.string ⟨#[]⟩) rfl
 obtain⟨d2,f2⟩:=HD4.out.df 2 (v:=.slice none 0 0) rfl
 obtain⟨d3,f3⟩:=HD4.out.df 3 (v:=.int .i64 0) rfl
 have d4:=HD4.out.at 4 (v:=.int .i64 0) rfl
 have d5:=HD4.out.at 5 (v:=.int .i64 x1) rfl
 obtain⟨b0,g0⟩:=HB4.out.df 0 (v:=.string ⟨#[]⟩) rfl
 obtain⟨b1,g1⟩:=HB4.out.df 1 (v:=.string ⟨#[]⟩) rfl
 obtain⟨b2,g2⟩:=HB4.out.df 2 (v:=.slice none 0 0) rfl
 obtain⟨b3,g3⟩:=HB4.out.df 3 (v:=.int .i64 0) rfl
 obtain⟨b4,g4⟩:=HB4.out.df 4 (v:=.int .i64 0) rfl
 obtain⟨b5,g5⟩:=HB4.out.df 5 (v:=.int .i64 0) rfl
 go_wp2_with fail
 refine bodyPost_ret (v:=.agg #[.string ⟨x2.toArray⟩,.string s4_0,.slice p4_1 n4_1 c4_1,.int .i64 i4_2,.int .i64 0,.int .i64 x1]) (by simp[results,Tryz.results98,go_sem,hlB,hlD,d0,d1,f1,d2,f2,d3,f3,d4,d5,b0,g0,b1,g1,b2,g2,b3,g3,b4,g4,b5,g5]) rfl ?_
 clear hlB hlD d0 d1 f1 d2 f2 d3 f3 d4 d5 b0 g0 b1 g1 b2 g2 b3 g3 b4 g4 b5 g5
 exact RD.mk (⟨x2,x4,0,x1⟩) s4 (by unfold Px.arg;refine .bind hq1.out<|.bind hq2.out ?_;refine .bind hq3.out<|.bind hq4.out ?_;exact Rel.pure _ _) (HF4.out.jf [w2.heap.size,w.heap.size]) (HI4.out.f [w2.heap.size,w.heap.size] H.out) ⟨_,rfl,rep_str.2 ⟨_,rfl,Rep.app (cs:=[.string s4_0,.slice p4_1 n4_1 c4_1,.int .i64 i4_2]) (HV4.out.f [w2.heap.size,w.heap.size]) (rep_int.2 ⟨_,rfl,rep_int.2 ⟨_,rfl,rep_nil.2 rfl⟩⟩)⟩⟩
set_option maxRecDepth 100000 in
set_option maxHeartbeats 1600000 in
theorem rvariant_any (c:RCtx) (s:RS) (w:World) (h:IR c s w) (n:Nat) (hm:s.mu≤n) :
  Calls Tryz.prog 64 #[.pointer (some ⟨c.R,0,none⟩)] w (RD c w (okAgg varQ) (Px.variant c.size n) s):=by
 have H:=hid h
 have HR0:=H.out.lt.1
 clear h
 go_enter Tryz.func64,Tryz.ntmps64
 go_wp2_with fail
 refine(rat_any c s _ (by exact H.out.f [] H.out)).mono ?_
 rintro e w1 ⟨_,x1,s1,rfl,hq1,hf,hi,rfl⟩
 have hT:Fr [c.R] w w1:=Fr.trans frk hf.wide
 have hz1:=hf.size;try simp at hz1
 have HB1:Hid (Blk w1 (w.heap.size) 47 #[zS,zN,zI]):=hid ((Blk.new w _ _).keep hf (by first|(simp;done)|omega|(simp;omega)))
 have HI1:=hid hi
 have HF1:=hid ((Fr.refl [c.R] w).j hT)
 have hl1:=hq1.out.mu (Shr.offset _)
 clear hT hf hi
 go_wp2_with fail
 refine(rname_any c s1 _ (by exact HI1.out.f [] H.out)).mono ?_
 rintro e w2 ⟨_,x2,s2,rfl,hq2,hf,hi,rfl⟩
 obtain⟨hT,HB2,HI2,HF2,hz2⟩:=IR.st [] HB1.out HF1.out hf hi
 try simp at hz2
 have hl2:=hq2.out.mu Shr.name
 clear hT hf hi
 have hneDB:w2.heap.size≠w.heap.size:=by omega
 have hneBD:=hneDB.symm
 go_wp2_with fail
 refine(rnext_q c s2 [40] _ (by exact HI2.out.f [w2.heap.size] H.out)).mono ?_
 rintro e w3 (⟨s3,hq3,hl3,rfl,hf,hi⟩|⟨hq3,rfl,hf,hi⟩)
 ·skip
  obtain⟨hT,HB3,HI3,HF3,hz3⟩:=IR.st [w2.heap.size] HB2.out HF2.out hf hi
  try simp at hz3
  have HD3:Hid (Blk w3 (w2.heap.size) 47 #[.string ⟨x2.toArray⟩,zN,.int .i64 x1]):=hid ((Blk.new_at (by simp)).k hf)
  clear hT hf hi
  have hlD:=HD3.out.lt
  go_wp2_with fail
  clear hlD
  refine(rtypes_any c n (n+1) [41] (by decide) (by decide) (typed_RL c n) s3 _ (by exact HI3.out.f [w2.heap.size] H.out) (by omega)).mono ?_
  rintro e w4 ⟨v4,x4,s4,rfl,hq4,hf,hi,hv⟩
  obtain⟨p4,n4,k4,rfl⟩:=row_shp hv
  have hV4:=(row_of hv).k (N':=(fun k=>w.heap.size≤k∧k≠w.heap.size∧k≠w2.heap.size)) (Fr.refl [] _)
  obtain⟨hT,HB4,HI4,HF4,hz4⟩:=IR.st [w2.heap.size] HB3.out HF3.out hf hi
  try simp at hz4
  have HD4:=hid (HD3.out.k hf)
  have HV4:=hid hV4
  clear hT hf hi hV4 hv
  have hlB:w.heap.size<w4.heap.size:=by omega
  have hlD:=HD4.out.lt
  have d0:=HD4.out.at 0 (v:=.string ⟨x2.toArray⟩) rfl
  obtain⟨d1,f1⟩:=HD4.out.df 1 (v:=.slice none 0 0) rfl
  have d2:=HD4.out.at 2 (v:=.int .i64 x1) rfl
  obtain⟨b0,g0⟩:=HB4.out.df 0 (v:=.string ⟨#[]⟩) rfl
  obtain⟨b1,g1⟩:=HB4.out.df 1 (v:=.slice none 0 0) rfl
  obtain⟨b2,g2⟩:=HB4.out.df 2 (v:=.int .i64 0) rfl
  go_wp2_with fail
  refine bodyPost_ret (v:=.agg #[.string ⟨x2.toArray⟩,.slice p4 n4 k4,.int .i64 x1]) (by simp[results,Tryz.results64,go_sem,hlB,hlD,d0,d1,f1,d2,b0,g0,b1,g1,b2,g2]) rfl ?_
  clear hlB hlD d0 d1 f1 d2 b0 g0 b1 g1 b2 g2
  exact RD.mk (⟨x2,x4,x1⟩) s4 (by unfold Px.variant;refine .bind hq1.out<|.bind hq2.out ?_;exact Rel.bind (Rel.optYes' hq3.out hq4.out) (Rel.pure _ _)) (HF4.out.jf [w2.heap.size,w.heap.size]) (HI4.out.f [w2.heap.size,w.heap.size] H.out) ⟨_,rfl,rep_str.2 ⟨_,rfl,rep_sl.2 ⟨_,_,rfl,(HV4.out.f [w2.heap.size,w.heap.size]),rep_int.2 ⟨_,rfl,rep_nil.2 rfl⟩⟩⟩⟩
 ·skip
  obtain⟨hT,HB3,HI3,HF3,hz3⟩:=IR.st [w2.heap.size] HB2.out HF2.out hf hi
  try simp at hz3
  have HD3:Hid (Blk w3 (w2.heap.size) 47 #[.string ⟨x2.toArray⟩,zN,.int .i64 x1]):=hid ((Blk.new_at (by simp)).k hf)
  clear hT hf hi
  have hlB:w.heap.size<w3.heap.size:=by omega
  have hlD:=HD3.out.lt
  have d0:=HD3.out.at 0 (v:=.string ⟨x2.toArray⟩) rfl
  have d1:=HD3.out.at 1 (v:=.slice none 0 0) rfl
  have d2:=HD3.out.at 2 (v:=.int .i64 x1) rfl
  obtain⟨b0,g0⟩:=HB3.out.df 0 (v:=.string ⟨#[]⟩) rfl
  obtain⟨b1,g1⟩:=HB3.out.df 1 (v:=.slice none 0 0) rfl
  obtain⟨b2,g2⟩:=HB3.out.df 2 (v:=.int .i64 0) rfl
  go_wp2_with fail
  refine bodyPost_ret (v:=.agg #[.string ⟨x2.toArray⟩,.slice none 0 0,.int .i64 x1]) (by simp[results,Tryz.results64,go_sem,hlB,hlD,d0,d1,d2,b0,g0,b1,g1,b2,g2]) rfl ?_
  clear hlB hlD d0 d1 d2 b0 g0 b1 g1 b2 g2
  exact RD.mk (⟨x2,[],x1⟩) s2 (by unfold Px.variant;refine .bind hq1.out<|.bind hq2.out ?_;exact Rel.bind (Rel.optNo hq3.out) (Rel.pure _ _)) (HF3.out.jf [w2.heap.size,w.heap.size]) (HI3.out.f [w2.heap.size,w.heap.size] H.out) ⟨_,rfl,rep_str.2 ⟨_,rfl,rep_sl.2 ⟨_,_,rfl,RowV.nil _ _ _ _,rep_int.2 ⟨_,rfl,rep_nil.2 rfl⟩⟩⟩⟩
set_option maxRecDepth 100000 in
set_option maxHeartbeats 1600000 in
theorem rcapture_any (c:RCtx) (s:RS) (w:World) (h:IR c s w) (n:Nat) (hm:s.mu≤n) :
  Calls Tryz.prog 143 #[.pointer (some ⟨c.R,0,none⟩)] w (RD c w (okAgg argQ) (Px.capture c.size n) s):=by
 have H:=hid h
 have HR0:=H.out.lt.1
 clear h
 go_enter Tryz.func143,Tryz.ntmps143
 go_wp2_with fail
 refine(rat_any c s _ (by exact H.out.f [] H.out)).mono ?_
 rintro e w1 ⟨_,x1,s1,rfl,hq1,hf,hi,rfl⟩
 have hT:Fr [c.R] w w1:=Fr.trans frk hf.wide
 have hz1:=hf.size;try simp at hz1
 have HB1:Hid (Blk w1 (w.heap.size) 155 #[zS,zS,zN,zI,zI,zI]):=hid ((Blk.new w _ _).keep hf (by first|(simp;done)|omega|(simp;omega)))
 have HI1:=hid hi
 have HF1:=hid ((Fr.refl [c.R] w).j hT)
 have hl1:=hq1.out.mu (Shr.offset _)
 clear hT hf hi
 go_wp2_with fail
 refine(rnext_q c s1 [109,111,118,101] _ (by exact HI1.out.f [] H.out)).mono ?_
 rintro e w2 (⟨s2,hq2,hl2,rfl,hf,hi⟩|⟨hq2,rfl,hf,hi⟩)
 ·skip
  obtain⟨hT,HB2,HI2,HF2,hz2⟩:=IR.st [] HB1.out HF1.out hf hi
  try simp at hz2
  clear hT hf hi
  go_wp2_with fail
  refine(rarg_any c s2 _ (by exact HI2.out.f [] H.out) n (by omega)).mono ?_
  rintro e w3 ⟨v3,x3,s3,rfl,hq3,hf,hi,hv⟩
  obtain⟨cs,rfl,hrep⟩:=hv
  obtain⟨s3_0,s3_1,p3_2,n3_2,c3_2,i3_3,i3_4,i3_5,rfl⟩:=hrep.c_argQ
  have hV3:=hrep.k (N':=(fun k=>w.heap.size≤k∧k≠w.heap.size)) (Fr.refl [] _)
  obtain⟨hT,HB3,HI3,HF3,hz3⟩:=IR.st [] HB2.out HF2.out hf hi
  try simp at hz3
  have HV3:=hid hV3
  have hl3:=hq3.out.mu (shr_arg _ _)
  clear hT hf hi hV3 hrep
  have hneDB:w3.heap.size≠w.heap.size:=by omega
  have hneBD:=hneDB.symm
  have hlB:w.heap.size<w3.heap.size:=by omega
  obtain⟨b0,g0⟩:=HB3.out.df 0 (v:=.string ⟨#[]⟩) rfl
  obtain⟨b1,g1⟩:=HB3.out.df 1 (v:=.string ⟨#[]⟩) rfl
  obtain⟨b2,g2⟩:=HB3.out.df 2 (v:=.slice none 0 0) rfl
  obtain⟨b3,g3⟩:=HB3.out.df 3 (v:=.int .i64 0) rfl
  obtain⟨b4,g4⟩:=HB3.out.df 4 (v:=.int .i64 0) rfl
  obtain⟨b5,g5⟩:=HB3.out.df 5 (v:=.int .i64 0) rfl
  go_wp2_with fail
  refine bodyPost_ret (v:=.agg #[.string s3_0,.string s3_1,.slice p3_2 n3_2 c3_2,.int .i64 i3_3,.int .i64 0,.int .i64 x1]) (by simp[results,Tryz.results143,go_sem,hlB,b0,g0,b1,g1,b2,g2,b3,g3,b4,g4,b5,g5]) rfl ?_
  clear hlB b0 g0 b1 g1 b2 g2 b3 g3 b4 g4 b5 g5
  exact RD.mk (⟨x3.name,x3.type,0,x1⟩) s3 (by unfold Px.capture;refine Rel.bind hq1.out ?_;refine Rel.bind (ck_move hq2.out) ?_;refine Rel.bind hq3.out ?_;exact Rel.pure _ _) (HF3.out.jf [w3.heap.size,w.heap.size]) (HI3.out.f [w3.heap.size,w.heap.size] H.out) ⟨_,rfl,capture_rep (HV3.out.f [w3.heap.size,w.heap.size])⟩
 ·skip
  obtain⟨hT,HB2,HI2,HF2,hz2⟩:=IR.st [] HB1.out HF1.out hf hi
  try simp at hz2
  clear hT hf hi
  go_wp2_with fail
  refine(rnext_q c s1 [38] _ (by exact HI2.out.f [] H.out)).mono ?_
  rintro e w4 (⟨s4,hq4,hl4,rfl,hf,hi⟩|⟨hq4,rfl,hf,hi⟩)
  ·skip
   obtain⟨hT,HB4,HI4,HF4,hz4⟩:=IR.st [] HB2.out HF2.out hf hi
   try simp at hz4
   clear hT hf hi
   go_wp2_with fail
   refine(rarg_any c s4 _ (by exact HI4.out.f [] H.out) n (by omega)).mono ?_
   rintro e w5 ⟨v5,x5,s5,rfl,hq5,hf,hi,hv⟩
   obtain⟨cs,rfl,hrep⟩:=hv
   obtain⟨s5_0,s5_1,p5_2,n5_2,c5_2,i5_3,i5_4,i5_5,rfl⟩:=hrep.c_argQ
   have hV5:=hrep.k (N':=(fun k=>w.heap.size≤k∧k≠w.heap.size)) (Fr.refl [] _)
   obtain⟨hT,HB5,HI5,HF5,hz5⟩:=IR.st [] HB4.out HF4.out hf hi
   try simp at hz5
   have HV5:=hid hV5
   have hl5:=hq5.out.mu (shr_arg _ _)
   clear hT hf hi hV5 hrep
   have hneDB:w5.heap.size≠w.heap.size:=by omega
   have hneBD:=hneDB.symm
   have hlB:w.heap.size<w5.heap.size:=by omega
   obtain⟨b0,g0⟩:=HB5.out.df 0 (v:=.string ⟨#[]⟩) rfl
   obtain⟨b1,g1⟩:=HB5.out.df 1 (v:=.string ⟨#[]⟩) rfl
   obtain⟨b2,g2⟩:=HB5.out.df 2 (v:=.slice none 0 0) rfl
   obtain⟨b3,g3⟩:=HB5.out.df 3 (v:=.int .i64 0) rfl
   obtain⟨b4,g4⟩:=HB5.out.df 4 (v:=.int .i64 0) rfl
   obtain⟨b5,g5⟩:=HB5.out.df 5 (v:=.int .i64 0) rfl
   go_wp2_with fail
   refine bodyPost_ret (v:=.agg #[.string s5_0,.string s5_1,.slice p5_2 n5_2 c5_2,.int .i64 i5_3,.int .i64 1,.int .i64 x1]) (by simp[results,Tryz.results143,go_sem,hlB,b0,g0,b1,g1,b2,g2,b3,g3,b4,g4,b5,g5]) rfl ?_
   clear hlB b0 g0 b1 g1 b2 g2 b3 g3 b4 g4 b5 g5
   exact RD.mk (⟨x5.name,x5.type,1,x1⟩) s5 (by unfold Px.capture;refine Rel.bind hq1.out ?_;refine Rel.bind (ck_share hq4.out) ?_;refine Rel.bind hq5.out ?_;exact Rel.pure _ _) (HF5.out.jf [w5.heap.size,w.heap.size]) (HI5.out.f [w5.heap.size,w.heap.size] H.out) ⟨_,rfl,capture_rep (HV5.out.f [w5.heap.size,w.heap.size])⟩
  ·skip
   obtain⟨hT,HB4,HI4,HF4,hz4⟩:=IR.st [] HB2.out HF2.out hf hi
   try simp at hz4
   clear hT hf hi
   go_wp2_with fail
   refine(rnext_q c s1 [38,33] _ (by exact HI4.out.f [] H.out)).mono ?_
   rintro e w6 (⟨s6,hq6,hl6,rfl,hf,hi⟩|⟨hq6,rfl,hf,hi⟩)
   ·skip
    obtain⟨hT,HB6,HI6,HF6,hz6⟩:=IR.st [] HB4.out HF4.out hf hi
    try simp at hz6
    clear hT hf hi
    go_wp2_with fail
    refine(rarg_any c s6 _ (by exact HI6.out.f [] H.out) n (by omega)).mono ?_
    rintro e w7 ⟨v7,x7,s7,rfl,hq7,hf,hi,hv⟩
    obtain⟨cs,rfl,hrep⟩:=hv
    obtain⟨s7_0,s7_1,p7_2,n7_2,c7_2,i7_3,i7_4,i7_5,rfl⟩:=hrep.c_argQ
    have hV7:=hrep.k (N':=(fun k=>w.heap.size≤k∧k≠w.heap.size)) (Fr.refl [] _)
    obtain⟨hT,HB7,HI7,HF7,hz7⟩:=IR.st [] HB6.out HF6.out hf hi
    try simp at hz7
    have HV7:=hid hV7
    have hl7:=hq7.out.mu (shr_arg _ _)
    clear hT hf hi hV7 hrep
    have hneDB:w7.heap.size≠w.heap.size:=by omega
    have hneBD:=hneDB.symm
    have hlB:w.heap.size<w7.heap.size:=by omega
    obtain⟨b0,g0⟩:=HB7.out.df 0 (v:=.string ⟨#[]⟩) rfl
    obtain⟨b1,g1⟩:=HB7.out.df 1 (v:=.string ⟨#[]⟩) rfl
    obtain⟨b2,g2⟩:=HB7.out.df 2 (v:=.slice none 0 0) rfl
    obtain⟨b3,g3⟩:=HB7.out.df 3 (v:=.int .i64 0) rfl
    obtain⟨b4,g4⟩:=HB7.out.df 4 (v:=.int .i64 0) rfl
    obtain⟨b5,g5⟩:=HB7.out.df 5 (v:=.int .i64 0) rfl
    go_wp2_with fail
    refine bodyPost_ret (v:=.agg #[.string s7_0,.string s7_1,.slice p7_2 n7_2 c7_2,.int .i64 i7_3,.int .i64 2,.int .i64 x1]) (by simp[results,Tryz.results143,go_sem,hlB,b0,g0,b1,g1,b2,g2,b3,g3,b4,g4,b5,g5]) rfl ?_
    clear hlB b0 g0 b1 g1 b2 g2 b3 g3 b4 g4 b5 g5
    exact RD.mk (⟨x7.name,x7.type,2,x1⟩) s7 (by unfold Px.capture;refine Rel.bind hq1.out ?_;refine Rel.bind (ck_excl hq6.out) ?_;refine Rel.bind hq7.out ?_;exact Rel.pure _ _) (HF7.out.jf [w7.heap.size,w.heap.size]) (HI7.out.f [w7.heap.size,w.heap.size] H.out) ⟨_,rfl,capture_rep (HV7.out.f [w7.heap.size,w.heap.size])⟩
   ·skip
    obtain⟨hT,HB6,HI6,HF6,hz6⟩:=IR.st [] HB4.out HF4.out hf hi
    try simp at hz6
    clear hT hf hi
    go_wp2_with fail
    refine(rfail_any c s1 _ (by exact HI6.out.f [] H.out)).mono ?_
    rintro e w8 hp
    obtain⟨rfl,hf,s8,hi,hfl8,hfd8⟩:=hp
    obtain⟨hT,HB8,HI8,HF8,hz8⟩:=IR.st [] HB6.out HF6.out hf hi
    try simp at hz8
    have HFL8:=hid hfl8
    have HFD8:=hid hfd8
    clear hT hf hi hfl8 hfd8
    have hl8:s8.mu≤s1.mu:=fail_mu HFL8.out HFD8.out
    go_wp2_with fail
    refine(rarg_any c s8 _ (by exact HI8.out.f [] H.out) n (by omega)).mono ?_
    rintro e w9 ⟨v9,x9,s9,rfl,hq9,hf,hi,hv⟩
    obtain⟨cs,rfl,hrep⟩:=hv
    obtain⟨s9_0,s9_1,p9_2,n9_2,c9_2,i9_3,i9_4,i9_5,rfl⟩:=hrep.c_argQ
    have hV9:=hrep.k (N':=(fun k=>w.heap.size≤k∧k≠w.heap.size)) (Fr.refl [] _)
    obtain⟨hT,HB9,HI9,HF9,hz9⟩:=IR.st [] HB8.out HF8.out hf hi
    try simp at hz9
    have HV9:=hid hV9
    have hl9:=hq9.out.mu (shr_arg _ _)
    clear hT hf hi hV9 hrep
    have hneDB:w9.heap.size≠w.heap.size:=by omega
    have hneBD:=hneDB.symm
    have hlB:w.heap.size<w9.heap.size:=by omega
    obtain⟨b0,g0⟩:=HB9.out.df 0 (v:=.string ⟨#[]⟩) rfl
    obtain⟨b1,g1⟩:=HB9.out.df 1 (v:=.string ⟨#[]⟩) rfl
    obtain⟨b2,g2⟩:=HB9.out.df 2 (v:=.slice none 0 0) rfl
    obtain⟨b3,g3⟩:=HB9.out.df 3 (v:=.int .i64 0) rfl
    obtain⟨b4,g4⟩:=HB9.out.df 4 (v:=.int .i64 0) rfl
    obtain⟨b5,g5⟩:=HB9.out.df 5 (v:=.int .i64 0) rfl
    go_wp2_with fail
    refine bodyPost_ret (v:=.agg #[.string s9_0,.string s9_1,.slice p9_2 n9_2 c9_2,.int .i64 i9_3,.int .i64 0,.int .i64 x1]) (by simp[results,Tryz.results143,go_sem,hlB,b0,g0,b1,g1,b2,g2,b3,g3,b4,g4,b5,g5]) rfl ?_
    clear hlB b0 g0 b1 g1 b2 g2 b3 g3 b4 g4 b5 g5
    exact RD.mk (⟨x9.name,x9.type,0,x1⟩) s9 (by unfold Px.capture;refine Rel.bind hq1.out ?_;refine Rel.bind (ck_none (a:=0) hq2.out hq4.out hq6.out HFL8.out HFD8.out) ?_;refine Rel.bind hq9.out ?_;exact Rel.pure _ _) (HF9.out.jf [w9.heap.size,w.heap.size]) (HI9.out.f [w9.heap.size,w.heap.size] H.out) ⟨_,rfl,capture_rep (HV9.out.f [w9.heap.size,w.heap.size])⟩
set_option maxRecDepth 100000 in
set_option maxHeartbeats 1600000 in
theorem rsimple_any (c:RCtx) (kind o:Nat) (s:RS) (w:World) (h:IR c s w) :
  Calls Tryz.prog 122 #[.pointer (some ⟨c.R,0,none⟩),.int .i64 kind,.int .i64 o] w (RD c w (okAgg stmtQ) (Px.namedS kind o) s):=by
 have H:=hid h
 have HR0:=H.out.lt.1
 clear h
 go_enter Tryz.func122,Tryz.ntmps122
 go_wp2_with fail
 refine(rname_any c s _ (by exact H.out.f [] H.out)).mono ?_
 rintro e w1 ⟨_,x1,s1,rfl,hq1,hf,hi,rfl⟩
 have hT:Fr [c.R] w w1:=Fr.trans frk hf.wide
 have hz1:=hf.size;try simp at hz1
 have HB1:Hid (Blk w1 (w.heap.size) 52 #[zI,zS,zN,zN,zI,zS,zS,zS,zN,zI,zN,zI,zN,zN,zN,zN,zI]):=hid ((Blk.new w _ _).keep hf (by first|(simp;done)|omega|(simp;omega)))
 have HI1:=hid hi
 have HF1:=hid ((Fr.refl [c.R] w).j hT)
 have hl1:=hq1.out.mu Shr.name
 clear hT hf hi
 have hneDB:w1.heap.size≠w.heap.size:=by omega
 have hneBD:=hneDB.symm
 go_wp2_with (refine wpList_store_row rfl 52 _ _ rfl (w1.heap.size) #[.int .i64 kind,.string ⟨x1.toArray⟩,.slice none 0 0,.slice none 0 0,.int .i64 0,.string ⟨#[]⟩,.string ⟨#[]⟩,.string ⟨#[]⟩,.slice none 0 0,.int .i64 0,.slice none 0 0,.int .i64 0,.slice none 0 0,.slice none 0 0,.slice none 0 0,.slice none 0 0,.int .i64 o] rfl rfl 52 _ (Blk.new_at (by simp)) rstmt_size rfl (by simp[Value.oneCell']) ?_)
 refine(rneed_q c s1 [59] _ (by exact HI1.out.f [w1.heap.size] H.out)).mono ?_
 rintro e w2 ⟨rfl,x2,s2,hq2,hf,hi⟩
 obtain⟨hT,HB2,HI2,HF2,hz2⟩:=IR.st [w1.heap.size] HB1.out HF1.out hf hi
 try simp at hz2
 have HD2:Hid (Blk w2 (w1.heap.size) 52 #[.int .i64 kind,.string ⟨x1.toArray⟩,zN,zN,zI,zS,zS,zS,zN,zI,zN,zI,zN,zN,zN,zN,.int .i64 o]):=hid ((show Blk _ (w1.heap.size) 52 #[.int .i64 kind,.string ⟨x1.toArray⟩,zN,zN,zI,zS,zS,zS,zN,zI,zN,zI,zN,zN,zN,zN,.int .i64 o] from setRow_heap _ _ _ _ _ _ (Blk.new_at (by simp))).k hf)
 have hl2:=hq2.out.mu (Shr.expect _)
 clear hT hf hi
 have hlD:=HD2.out.lt
 go_wp2_with (first|(refine wpList_load_row rfl 52 _ rfl (w1.heap.size) rfl 52 _ (0,0) _ HD2.out Tryz.underlying52 rfl rstmt_size ?_)|(refine wpList_store_row rfl 52 _ _ rfl (w.heap.size) _ rfl rfl 52 _ (HB2.out.row [w1.heap.size]) rstmt_size rfl (by simp[Value.oneCell']) ?_))
 refine bodyPost_ret (results_cell_row (p:=6) rfl _ _ (w.heap.size) 52 _ (0,0) _ rfl (setRow_heap _ _ _ _ _ _ (HB2.out.row [w1.heap.size])) Tryz.underlying52 rfl rstmt_size) rfl ?_
 clear hlD
 exact RD.mk (.mk kind x1 [] [] Px.expr0 [] [] [] [] o) s2 (by unfold Px.namedS;refine .bind hq1.out<|.bind hq2.out ?_;exact Rel.pure _ _) (HF2.out.jf [w1.heap.size,w.heap.size]) (HI2.out.f [w1.heap.size,w.heap.size] H.out) ⟨_,rfl,by rw[stmtQ_mk];exact rep_int.2 ⟨_,rfl,rep_str.2 ⟨_,rfl,rep_sl.2 ⟨_,_,rfl,RowV.nil _ _ _ _,rep_sl.2 ⟨_,_,rfl,RowV.nil _ _ _ _,Rep.app (cs:=[.int .i64 0,.string ⟨#[]⟩,.string ⟨#[]⟩,.string ⟨#[]⟩,.slice none 0 0,.int .i64 0,.slice none 0 0,.int .i64 0]) (expr0_rep) (rep_sl.2 ⟨_,_,rfl,RowV.nil _ _ _ _,rep_sl.2 ⟨_,_,rfl,RowV.nil _ _ _ _,rep_sl.2 ⟨_,_,rfl,RowV.nil _ _ _ _,rep_sl.2 ⟨_,_,rfl,RowV.nil _ _ _ _,rep_int.2 ⟨_,rfl,rep_nil.2 rfl⟩⟩⟩⟩⟩)⟩⟩⟩⟩⟩
set_option maxRecDepth 100000 in
set_option maxHeartbeats 1600000 in
theorem rargs_any (c:RCtx) (s:RS) (w:World) (h:IR c s w) (n:Nat) (hm:s.mu≤n) :
  Calls Tryz.prog 68 #[.pointer (some ⟨c.R,0,none⟩)] w (RD c w (okRow 155 6 argQ) (Px.possiblyEmptyList [40] (Px.arg c.size n) [41]) s):=by
 obtain⟨i0,hi0,iz0,iz1,iz2⟩:=info_parts info_arg
 have HINF:=hid hi0
 clear hi0
 have H:=hid h
 have HR0:=H.out.lt.1
 clear h
 go_enter Tryz.func68,Tryz.ntmps68
 go_wp2_with fail
 refine(rneed_q c s [40] _ (by exact H.out.f [] H.out)).mono ?_
 rintro e w1 ⟨rfl,x1,s1,hq1,hf,hi⟩
 obtain⟨hT,HI1,HF1,hz1⟩:=IR.st0 [] (Fr.refl [c.R] w) hf hi
 try simp at hz1
 have hl1:=hq1.out.mu (Shr.expect _)
 clear hT hf hi
 go_wp2_with fail
 refine(ris_q c s1 [41] _ (by exact HI1.out.f [] H.out)).mono ?_
 rintro e w2 (⟨hx2,hm2,rfl,hf,hi⟩|⟨hq2,rfl,hf,hi⟩)
 ·skip
  obtain⟨hT,HI2,HF2,hz2⟩:=IR.st0 [] HF1.out hf hi
  try simp at hz2
  clear hT hf hi
  go_wp2_with fail
  refine(rneed_q c s1 [41] _ (by exact HI2.out.f [] H.out)).mono ?_
  rintro e w3 ⟨rfl,x3,s3,hq3,hf,hi⟩
  obtain⟨hT,HI3,HF3,hz3⟩:=IR.st0 [] HF2.out hf hi
  try simp at hz3
  have hl3:=hq3.out.mu (Shr.expect _)
  clear hT hf hi
  go_wp2_with fail
  first|go_ret|go_ret2
  exact RD.mk ([]) s3 (by exact Rel.posNo hq1.out hq3.out hx2.out) (HF3.out.jf []) (HI3.out.f [] H.out) (RowV.nil _ _ _ _)
 ·skip
  obtain⟨hT,HI2,HF2,hz2⟩:=IR.st0 [] HF1.out hf hi
  try simp at hz2
  clear hT hf hi
  go_wp2_with fail
  refine(rarg_any c s1 w2 HI2.out n (by omega)).mono ?_
  rintro e wa hp
  obtain⟨va,a,sa,rfl,hq,hf,hi1,hv⟩:=hp
  obtain⟨cs,rfl,hrep⟩:=hv
  obtain⟨y1_0,y1_1,y1_2,y1_3,y1_4,y1_5,rfl⟩:=cells_6 (hrep.len.trans (len_argQ a))
  have hBw:w.heap.size≤w2.heap.size:=HF2.out.size
  obtain⟨g1,g2,g3,g4⟩:=append_ready (B:=w.heap.size) (v:=.slice none 0 0) (n:=0) (s:=6) (E:=155) (news:=[y1_0,y1_1,y1_2,y1_3,y1_4,y1_5]) (.inl ⟨rfl,rfl,rfl⟩:ListAt w2 w.heap.size 155 6 0 .nil (.slice none 0 0)) (Nat.le_refl _) hf H.out.lt.1 hBw hrep 155
  have G1:=hid g1
  have G2:=hid g2
  have G3:=hid g3
  have HQA:=hid hq
  have HFA:=hid (HF2.out.trans hf)
  have HIA:=hid hi1
  have HMA:=hq.out.mu (shr_arg _ _)
  clear g1 g2 g3 hq hf hi1 hrep
  go_wp2_with (at_builtin;refine wpList_append_list _ rfl _ _ 36 rfl w.heap.size 155 i0 _ 6 80 Tryz.underlying36 HINF.out iz0 iz1 iz2 rfl (by decide) _ 0 1 .nil (argQ a) rfl G1.out ⟨wa.heap.size,0,none⟩ 1 [y1_0,y1_1,y1_2,y1_3,y1_4,y1_5] rfl (by decide) rfl G2.out G3.out (by decide) (by decide) g4 ?_)
  intro v' w4 hL4 hg4
  have hown:∀ k,(Value.slice none 0 0).ownBlock=some k→w.heap.size≤k:=fun k e=>by simp[Value.ownBlock] at e
  have HI5:=hid ((HIA.out.alloc (.cells #[y1_0,y1_1,y1_2,y1_3,y1_4,y1_5] 155)).grown H.out hg4 hown)
  have HF5:=hid ((HFA.out.alloc (.cells #[y1_0,y1_1,y1_2,y1_3,y1_4,y1_5] 155)).grown hg4 hown)
  have HL5:Hid (ListAt w4 w.heap.size 155 6 [a].length (rowsQ argQ [a]) v'):=hid (by rw[rowsQ_one];exact hL4)
  have HJ1:=hid (LJ.start (shr_arg _ _) HQA.out.out)
  have HM1:1+sa.mu≤6002:=by have:=HI5.out.mu_le;omega
  clear hL4 hg4 hown
  go_wp2_with fail
  go_loopw [3] (fun v wr=>∃ (acc:List ArgD) (s':RS),ListAt wr w.heap.size 155 6 acc.length (rowsQ argQ acc) v∧IR c s' wr∧Fr [c.R] w wr∧s'.mu≤n∧acc.length+s'.mu≤6002∧LJ c.size (Px.arg c.size n) s1 acc s') (fun _ wr=>rMu c wr)
  case atStart=>exact⟨[a],sa,HL5.out,HI5.out,HF5.out,by omega,HM1,HJ1.out⟩
  case round =>
   obtain⟨acc,s',hL,hi,hf,hle,hn,hJ⟩:=hrel
   have HJ:=hid hJ
   have HL:=hid hL
   have HI2:=hid hi
   have HF:=hid hf
   clear hJ hL hi hf
   go_wp2_with fail
   refine(rnext_any c s' [44] wr HI2.out (by decide) (by decide)).mono ?_
   rintro e w2 hp
   rcases hp.next with ⟨s2,hq,hm,rfl,hf2,hi2⟩|⟨hq,rfl,hf2,hi2⟩
   ·clear hp
    have HQ2:=hid hq
    have HI3:=hid hi2
    have HF2:=hid hf2
    have hb2:=(hf2.size)
    clear hq hf2 hi2
    go_wp2_with fail
    refine(rarg_any c s2 w2 HI3.out n (by omega)).mono ?_
    rintro e w3 hp
    obtain⟨v3,b,s3,rfl,hq3,hf3,hi3,hv3⟩:=hp
    obtain⟨cs,rfl,hrep⟩:=hv3
    obtain⟨y3_0,y3_1,y3_2,y3_3,y3_4,y3_5,rfl⟩:=cells_6 (hrep.len.trans (len_argQ b))
    obtain⟨g1,g2,g3,g4⟩:=append_ready (news:=[y3_0,y3_1,y3_2,y3_3,y3_4,y3_5]) HL.out hb2 (HF2.out.trans hf3) H.out.lt.1 HF.out.size hrep 155
    have G1:=hid g1
    have G2:=hid g2
    have G3:=hid g3
    have HQ3:=hid hq3
    have HF3:=hid hf3
    have HI4:=hid hi3
    have hle3:=HQ3.out.out.mu (shr_arg _ _)
    clear g1 g2 g3 hq3 hf3 hi3 hrep
    go_wp2_with (at_builtin;refine wpList_append_list _ rfl _ _ 36 rfl w.heap.size 155 i0 _ 6 80 Tryz.underlying36 HINF.out iz0 iz1 iz2 rfl (by decide) _ acc.length 1 (rowsQ argQ acc) (argQ b) rfl G1.out ⟨w3.heap.size,0,none⟩ 1 [y3_0,y3_1,y3_2,y3_3,y3_4,y3_5] rfl (by decide) rfl G2.out G3.out ?c1 (by decide) g4 ?_)
    case c1=>omega
    intro v' w4 hL4 hg4
    have hown:∀ k,u3.ownBlock=some k→w.heap.size≤k:=fun k e=>(HL.out.own k e).1
    have hI4:=(HI4.out.alloc (.cells #[y3_0,y3_1,y3_2,y3_3,y3_4,y3_5] 155)).grown H.out hg4 hown
    have hF4:=(((HF.out.trans HF2.out).trans HF3.out).alloc (.cells #[y3_0,y3_1,y3_2,y3_3,y3_4,y3_5] 155)).grown hg4 hown
    have HI5:=hid hI4
    have HF5:=hid hF4
    have HL5:=hid hL4
    clear hI4 hF4 hL4 hg4 hown
    go_wp2_with fail
    go_roundw
    case rel=>exact⟨acc ++ [b],s3,by rw[List.length_append,rowsQ_snoc];exact HL5.out,HI5.out,HF5.out,by omega,by simp;omega,HJ.out.more (shr_arg _ _) HQ2.out.out hm HQ3.out.out⟩
    case measure=>rw[HI5.out.rMu,HI2.out.rMu];omega
   ·clear hp
    have HQ2:=hid hq
    have HI3:=hid hi2
    have HF3:=hid (HF.out.trans hf2)
    have HL3:=hid (HL.out.keep hf2 (by simpa using H.out.lt.1))
    have HLI:=hid (HJ.out.stop HQ2.out.out)
    clear hq hf2 hi2
    go_wp2_with fail
    refine(rneed_any c s' [41] _ HI3.out (by decide) (by decide)).mono ?_
    rintro e w5 hp
    obtain⟨rfl,y5,s5,hq5,hf5,hi5⟩:=hp
    have HF6:=hid (HF3.out.trans hf5)
    have HI6:=hid hi5
    have HL6:=hid (HL3.out.keep hf5 (by simpa using H.out.lt.1))
    clear hf5 hi5
    go_wp2_with fail
    first|go_ret|go_ret2
    exact RD.mk acc s5 (Rel.posYes hq1.out hq2.out HLI.out hq5.out) HF6.out HI6.out HL6.out.row
set_option maxRecDepth 100000 in
set_option maxHeartbeats 1600000 in
theorem rimpl_any (c:RCtx) (o:Nat) (s:RS) (w:World) (h:IR c s w) (n:Nat) (hm:s.mu≤n) :
  Calls Tryz.prog 28 #[.pointer (some ⟨c.R,0,none⟩),.int .i64 o] w (RD c w (okAgg implQ) (Px.implementation c.size n o) s):=by
 have H:=hid h
 have HR0:=H.out.lt.1
 clear h
 go_enter Tryz.func28,Tryz.ntmps28
 go_wp2_with fail
 refine(rparams_any c s _ (by exact H.out.f [] H.out)).mono ?_
 rintro e w1 ⟨v1,x1,s1,rfl,hq1,hf,hi,hv⟩
 obtain⟨p1,n1,k1,rfl⟩:=row_shp hv
 have hV1:=(row_of hv).k (N':=(fun k=>w.heap.size≤k∧k≠w.heap.size)) (Fr.refl [] _)
 have hT:Fr [c.R] w w1:=Fr.trans frk hf.wide
 have hz1:=hf.size;try simp at hz1
 have HB1:Hid (Blk w1 (w.heap.size) 91 #[zS,zN,zN,zS,zN,zI,zS,zI]):=hid ((Blk.new w _ _).keep hf (by first|(simp;done)|omega|(simp;omega)))
 have HI1:=hid hi
 have HF1:=hid ((Fr.refl [c.R] w).j hT)
 have HV1:=hid hV1
 have hl1:=hq1.out.mu shr_params
 clear hT hf hi hV1 hv
 go_wp2_with fail
 refine(rname_any c s1 _ (by exact HI1.out.f [] H.out)).mono ?_
 rintro e w2 ⟨_,x2,s2,rfl,hq2,hf,hi,rfl⟩
 obtain⟨hT,HB2,HI2,HF2,hz2⟩:=IR.st [] HB1.out HF1.out hf hi
 try simp at hz2
 have HV1_2:=hid (HV1.out.ks hT)
 have hl2:=hq2.out.mu Shr.name
 clear hT hf hi
 have hneDB:w2.heap.size≠w.heap.size:=by omega
 have hneBD:=hneDB.symm
 go_wp2_with (refine wpList_store_row rfl 91 _ _ rfl (w2.heap.size) #[.string ⟨x2.toArray⟩,.slice p1 n1 k1,.slice none 0 0,.string ⟨#[]⟩,.slice none 0 0,.int .i64 0,.string ⟨#[]⟩,.int .i64 o] rfl rfl 91 _ (Blk.new_at (by simp)) rimpl_size rfl (by simp[Value.oneCell']) ?_)
 refine(rneed_q c s2 [102,111,114] _ (by exact HI2.out.f [w2.heap.size] H.out)).mono ?_
 rintro e w3 ⟨rfl,x3,s3,hq3,hf,hi⟩
 obtain⟨hT,HB3,HI3,HF3,hz3⟩:=IR.st [w2.heap.size] HB2.out HF2.out hf hi
 try simp at hz3
 have HD3:Hid (Blk w3 (w2.heap.size) 91 #[.string ⟨x2.toArray⟩,.slice p1 n1 k1,zN,zS,zN,zI,zS,.int .i64 o]):=hid ((show Blk _ (w2.heap.size) 91 #[.string ⟨x2.toArray⟩,.slice p1 n1 k1,zN,zS,zN,zI,zS,.int .i64 o] from setRow_heap _ _ _ _ _ _ (Blk.new_at (by simp))).k hf)
 have HV1_3:=hid (HV1_2.out.k (N':=(fun k=>w.heap.size≤k∧k≠w.heap.size∧k≠w2.heap.size)) hT)
 have hl3:=hq3.out.mu (Shr.expect _)
 clear hT hf hi
 have hlD:=HD3.out.lt
 go_wp2_with fail
 clear hlD
 refine(rtyped_any c n n s3 _ (by exact HI3.out.f [w2.heap.size] H.out) (by omega) (by omega)).mono ?_
 rintro e w4 ⟨v4,x4,s4,rfl,hq4,hf,hi,hv⟩
 obtain⟨cs,rfl,hrep⟩:=hv
 obtain⟨s4_0,p4_1,n4_1,c4_1,i4_2,rfl⟩:=hrep.c_typeQ
 have hV4:=hrep.k (N':=(fun k=>w.heap.size≤k∧k≠w.heap.size∧k≠w2.heap.size)) (Fr.refl [] _)
 obtain⟨hT,HB4,HI4,HF4,hz4⟩:=IR.st [w2.heap.size] HB3.out HF3.out hf hi
 try simp at hz4
 have HD4:=hid (HD3.out.k hf)
 have HV1_4:=hid (HV1_3.out.ks hT)
 have HV4:=hid hV4
 have hl4:=hq4.out.mu (shr_typeF _ _)
 clear hT hf hi hV4 hrep
 have hlD:=HD4.out.lt
 obtain⟨d3,f3⟩:=HD4.out.df 3 (v:=.string ⟨#[]⟩) rfl
 obtain⟨d4,f4⟩:=HD4.out.df 4 (v:=.slice none 0 0) rfl
 obtain⟨d5,f5⟩:=HD4.out.df 5 (v:=.int .i64 0) rfl
 go_wp2_with fail
 clear hlD d3 f3 d4 f4 d5 f5
 refine(rbounds_any c s4 _ (by exact HI4.out.f [w2.heap.size] H.out)).mono ?_
 rintro e w5 ⟨v5,x5,s5,rfl,hq5,hf,hi,hv⟩
 obtain⟨p5,n5,k5,rfl⟩:=row_shp hv
 have hV5:=(row_of hv).k (N':=(fun k=>w.heap.size≤k∧k≠w.heap.size∧k≠w2.heap.size)) (Fr.refl [] _)
 obtain⟨hT,HB5,HI5,HF5,hz5⟩:=IR.st [w2.heap.size] HB4.out HF4.out hf hi
 try simp at hz5
 have HD5:Hid (Blk w5 (w2.heap.size) 91 #[.string ⟨x2.toArray⟩,.slice p1 n1 k1,zN,.string s4_0,.slice p4_1 n4_1 c4_1,.int .i64 i4_2,zS,.int .i64 o]):=hid ((((HD4.out.set 3 (.string s4_0)).set 4 (.slice p4_1 n4_1 c4_1)).set 5 (.int .i64 i4_2)).k hf)
 have HV1_5:=hid (HV1_4.out.ks hT)
 have HV4_5:=hid (HV4.out.ks hT)
 have HV5:=hid hV5
 have hl5:=hq5.out.mu (shr_bounds _)
 clear hT hf hi hV5 hv
 have hlD:=HD5.out.lt
 obtain⟨d2,f2⟩:=HD5.out.df 2 (v:=.slice none 0 0) rfl
 go_wp2_with fail
 clear hlD d2 f2
 refine(rneed_q c s5 [61] _ (by exact HI5.out.f [w2.heap.size] H.out)).mono ?_
 rintro e w6 ⟨rfl,x6,s6,hq6,hf,hi⟩
 obtain⟨hT,HB6,HI6,HF6,hz6⟩:=IR.st [w2.heap.size] HB5.out HF5.out hf hi
 try simp at hz6
 have HD6:Hid (Blk w6 (w2.heap.size) 91 #[.string ⟨x2.toArray⟩,.slice p1 n1 k1,.slice p5 n5 k5,.string s4_0,.slice p4_1 n4_1 c4_1,.int .i64 i4_2,zS,.int .i64 o]):=hid ((HD5.out.set 2 (.slice p5 n5 k5)).k hf)
 have HV1_6:=hid (HV1_5.out.ks hT)
 have HV4_6:=hid (HV4_5.out.ks hT)
 have HV5_6:=hid (HV5.out.ks hT)
 have hl6:=hq6.out.mu (Shr.expect _)
 clear hT hf hi
 have hlD:=HD6.out.lt
 go_wp2_with fail
 clear hlD
 refine(rname_any c s6 _ (by exact HI6.out.f [w2.heap.size] H.out)).mono ?_
 rintro e w7 ⟨_,x7,s7,rfl,hq7,hf,hi,rfl⟩
 obtain⟨hT,HB7,HI7,HF7,hz7⟩:=IR.st [w2.heap.size] HB6.out HF6.out hf hi
 try simp at hz7
 have HD7:=hid (HD6.out.k hf)
 have HV1_7:=hid (HV1_6.out.ks hT)
 have HV4_7:=hid (HV4_6.out.ks hT)
 have HV5_7:=hid (HV5_6.out.ks hT)
 have hl7:=hq7.out.mu Shr.name
 clear hT hf hi
 have hlD:=HD7.out.lt
 obtain⟨d6,f6⟩:=HD7.out.df 6 (v:=.string ⟨#[]⟩) rfl
 go_wp2_with fail
 clear hlD d6 f6
 refine(rneed_q c s7 [59] _ (by exact HI7.out.f [w2.heap.size] H.out)).mono ?_
 rintro e w8 ⟨rfl,x8,s8,hq8,hf,hi⟩
 obtain⟨hT,HB8,HI8,HF8,hz8⟩:=IR.st [w2.heap.size] HB7.out HF7.out hf hi
 try simp at hz8
 have HD8:Hid (Blk w8 (w2.heap.size) 91 #[.string ⟨x2.toArray⟩,.slice p1 n1 k1,.slice p5 n5 k5,.string s4_0,.slice p4_1 n4_1 c4_1,.int .i64 i4_2,.string ⟨x7.toArray⟩,.int .i64 o]):=hid ((HD7.out.set 6 (.string ⟨x7.toArray⟩)).k hf)
 have HV1_8:=hid (HV1_7.out.ks hT)
 have HV4_8:=hid (HV4_7.out.ks hT)
 have HV5_8:=hid (HV5_7.out.ks hT)
 have hl8:=hq8.out.mu (Shr.expect _)
 clear hT hf hi
 have hlD:=HD8.out.lt
 go_wp2_with (first|(refine wpList_load_row rfl 91 _ rfl (w2.heap.size) rfl 91 _ (0,0) _ HD8.out Tryz.underlying91 rfl rimpl_size ?_)|(refine wpList_store_row rfl 91 _ _ rfl (w.heap.size) _ rfl rfl 91 _ (HB8.out.row [w2.heap.size]) rimpl_size rfl (by simp[Value.oneCell']) ?_))
 refine bodyPost_ret (results_cell_row (p:=4) rfl _ _ (w.heap.size) 91 _ (0,0) _ rfl (setRow_heap _ _ _ _ _ _ (HB8.out.row [w2.heap.size])) Tryz.underlying91 rfl rimpl_size) rfl ?_
 clear hlD
 exact RD.mk (⟨x2,x1,x5,x4,x7,o⟩) s8 (by unfold Px.implementation;refine .bind hq1.out<|.bind hq2.out ?_;refine .bind hq3.out<|.bind hq4.out ?_;refine .bind hq5.out<|.bind hq6.out ?_;refine .bind hq7.out<|.bind hq8.out ?_;exact Rel.pure _ _) (HF8.out.jf [w2.heap.size,w.heap.size]) (HI8.out.f [w2.heap.size,w.heap.size] H.out) ⟨_,rfl,(by unfold implQ strsQ boundsS;exact rep_str.2 ⟨_,rfl,rep_sl.2 ⟨_,_,rfl,(HV1_8.out.f [w2.heap.size,w.heap.size]),rep_sl.2 ⟨_,_,rfl,(HV5_8.out.f [w2.heap.size,w.heap.size]),Rep.app (cs:=[.string s4_0,.slice p4_1 n4_1 c4_1,.int .i64 i4_2]) (HV4_8.out.f [w2.heap.size,w.heap.size]) (rep_str.2 ⟨_,rfl,rep_int.2 ⟨_,rfl,rep_nil.2 rfl⟩⟩)⟩⟩⟩)⟩
end Go.Proofs.YtghohohagbbajaaGreatDoor
