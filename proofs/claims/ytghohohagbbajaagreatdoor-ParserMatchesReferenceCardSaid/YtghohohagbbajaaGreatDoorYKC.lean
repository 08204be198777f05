/- part of the proof -/
import Derived.Test.YtghohohagbbajaaGreatDoorYKB
import Derived.Laws.Rows
import Derived.Laws.Tables
import Derived.Test.YtghohohagbbajaaGreatDoorYO
set_option linter.unusedVariables false
set_option linter.unusedSimpArgs false
set_option linter.unusedSectionVars false
namespace Go.Proofs.YtghohohagbbajaaGreatDoor
open Go.RowKit Go.Lib
open Lx (Tk)
open Px (Txt TyE VarD DataD TraitD BoundD ImplD ArgD ExprD StmtD ArmD FuncD ModD)
theorem rowk {N N':Nat→Prop} {X:List Nat} {w w':World} {E s n:Nat} {q:Q} {v:Value} (h:RowV w N E s n q v) (hf:Fr X w w') (hN:∀ k,N k→k<w.heap.size→N' k∧k ∉ X):RowV w' N' E s n q v :=
 h.mono (fun k hk hl=>⟨(hN k hk hl).1,hf.block k hl (hN k hk hl).2⟩)
theorem repk {N N':Nat→Prop} {X:List Nat} {w w':World} {q:Q} {cs:List Value} (h:Rep w N q cs) (hf:Fr X w w') (hN:∀ k,N k→k<w.heap.size→N' k∧k ∉ X):Rep w' N' q cs :=
 h.mono (fun k hk hl=>⟨(hN k hk hl).1,hf.block k hl (hN k hk hl).2⟩)
theorem row_of {E s b:Nat} {α:Type} {f:α→Q} {l:List α} {w:World} {v:Value} (h:okRow E s f b l w v):RowV w (fun k=>b≤k) E s l.length (rowsQ f l) v:=h
theorem rowk_one {w:World} {N:Nat→Prop} {g E s:Nat} {α:Type} {f:α→Q} {a:α} {xs:List Value} (hB:Blk w g E xs.toArray) (hb:N g) (hl:xs.length=s) (hq:Rep w N (f a) xs):RowV w N E s [a].length (rowsQ f [a]) (.slice (some ⟨g,0,none⟩) 1 1):=by
 rw[rowsQ_one]
 exact .inr ⟨g,1,xs.toArray,xs,rfl,by simp,hb,hB,by simp,by unfold maxLen;decide,by simp[hl],by rw[List.length_singleton,Nat.one_mul,← hl];simp,by rw[hl,List.length_singleton,Nat.one_mul],hq⟩
theorem strs_rowk {w:World} {N:Nat→Prop} {g:Nat} {l:List Txt} (hB:Blk w g 9 (l.map strV).toArray) (hb:N g) (hl:l≠[]) (hm:l.length≤1000):RowV w N 9 1 l.length (rowsQ strQ l) (.slice (some ⟨g,0,none⟩) l.length l.length):=by
 refine .inr ⟨g,l.length,(l.map strV).toArray,l.map strV,rfl,by simp[hl],hb,hB,Nat.le_refl _,Nat.le_trans hm (by unfold maxLen;decide),by simp,by rw[Nat.mul_one];exact List.take_of_length_le (by simp),by simp,?_⟩
 clear hB hl hm
 induction l with
 | nil=>exact rep_nil.2 rfl
 | cons a l ih=>exact rep_str.2 ⟨_,rfl,ih⟩
theorem RD.mk {α:Type} {c:RCtx} {w w':World} {okv:Nat→α→World→Value→Prop} {p:Px.Rd α} {s:RS} {v:Value} (a:α) (s':RS) (h1:Rel c.size p s a s') (h2:Fr [c.R] w w') (h3:IR c s' w') (h4:okv w.heap.size a w' v):RD c w okv p s (.returned v) w' :=
 ⟨v,a,s',rfl,hid h1,h2,h3,h4⟩
def RL {α:Type} (c:RCtx) (F:Nat) (m:Nat) (okv:Nat→α→World→Value→Prop) (p:Px.Rd α):Prop :=
 ∀ s w,IR c s w→s.mu<m→Calls Tryz.prog F #[.pointer (some ⟨c.R,0,none⟩)] w (RD c w okv p s)
theorem RD.conv {α:Type} {c:RCtx} {w w':World} {okv:Nat→α→World→Value→Prop} {p q:Px.Rd α} {s:RS} {e:Ending} (h:RD c w okv p s e w') (hpq:∀ a s',Rel c.size p s a s'→Rel c.size q s a s'):RD c w okv q s e w':=by
 obtain⟨v,a,s',h1,h2,h3⟩:=h
 exact⟨v,a,s',h1,hid (hpq a s' h2.out),h3⟩
theorem Rel.dead {sz:Nat} {α:Type} {p q:Px.Rd α} {s s':RS} {a:α} (h0:s.mu=0) (h:Rel sz p s a s'):Rel sz q s a s':=by
 cases s with
 | dead e o=>exact h
 | live ts=>simp[RS.mu] at h0
theorem IR.turn2 {c:RCtx} {s s':RS} {w w2:World} {X:List Nat} (h:IR c s w) (hf:Fr X w w2) (hX:c.Tb ∉ X) {a:Option Addr} {cap:Nat} (ht:c.tv=.slice a c.L.length cap) (k e o:Nat)
  (hb:Blk w2 c.R 61 #[.slice a c.L.length cap,.int .i64 k,.int .i64 c.size,.int .i64 e,.int .i64 o]) (hk:k≤c.L.length) (ha:RAt c k s' e o):IR c s' w2 :=
 ⟨⟨k,e,o,by rw[ht];exact hb,hk,ha⟩,h.toks.same (hf.block _ h.tb hX),Nat.lt_of_lt_of_le h.tb hf.size,h.ne,h.few,h.nums,h.words,h.kinds⟩
theorem Blk.drewN' {w:World} {b T:Nat} {cs:Array Value} (h:Blk w b T cs) (n:Nat):Blk (w.drewN n) b T cs:=h
structure FrB (X:List Nat) (B:Nat) (w w':World):Prop where
 os:w'.os=w.os
 tape:w'.tape=w.tape
 output:w'.output=w.output
 size:w.heap.size≤w'.heap.size
 block:∀ k,k<w.heap.size→k<B→k ∉ X→w'.heap[k]?=w.heap[k]?
theorem frb_grown {X:List Nat} {B:Nat} {w w1 w2:World} {row:Option Nat} (h:Fr X w w1) (hg:w1.grownBy w2 row) (ho:∀ k,row=some k→B≤k):FrB X B w w2 :=
 ⟨hg.os.trans h.os,hg.tape.trans h.tape,hg.output.trans h.output,Nat.le_trans h.size hg.size,fun k hk hB hx=>(hg.block k (Nat.lt_of_lt_of_le hk h.size) (fun e=>by have:=ho k e.symm;omega)).trans (h.block k hk hx)⟩
theorem Fr.frb {X:List Nat} {B:Nat} {w0 w w':World} (h:Fr X w0 w) (hg:FrB X B w w') (hB:w0.heap.size≤B):Fr X w0 w' :=
 ⟨hg.os.trans h.os,hg.tape.trans h.tape,hg.output.trans h.output,Nat.le_trans h.size hg.size,fun k hk hx=>(hg.block k (Nat.lt_of_lt_of_le hk h.size) (by omega) hx).trans (h.block k hk hx)⟩
theorem rowb {N N':Nat→Prop} {X:List Nat} {B:Nat} {w w':World} {E s n:Nat} {q:Q} {v:Value} (h:RowV w N E s n q v) (hf:FrB X B w w') (hN:∀ k,N k→k<w.heap.size→N' k∧k<B∧k ∉ X):RowV w' N' E s n q v :=
 h.mono (fun k hk hl=>⟨(hN k hk hl).1,hf.block k hl (hN k hk hl).2.1 (hN k hk hl).2.2⟩)
theorem Fr.setRow {X:List Nat} {a w:World} (h:Fr X a w) {g:Nat} (hg:g∈X) (cs:Array Value):Fr X a (w.setRow g cs) :=
 h.trans ⟨rfl,rfl,rfl,by simp,fun k _ hk=>setRow_other w g k cs (fun e=>hk (e ▸ hg))⟩
theorem Blk.setRow_other {w:World} {b T g:Nat} {cs cs':Array Value} (h:Blk w b T cs) (hg:b≠g):Blk (w.setRow g cs') b T cs:=(Go.setRow_other w g b cs' hg).trans h
theorem rstmt_size:(Tryz.prog.info? 52).map (·.size)=some 17:=by kernel_rfl
theorem rfunc_size:(Tryz.prog.info? 42).map (·.size)=some 10:=by kernel_rfl
theorem rexpr_size:(Tryz.prog.info? 49).map (·.size)=some 8:=by kernel_rfl
theorem rimpl_size:(Tryz.prog.info? 91).map (·.size)=some 8:=by kernel_rfl
theorem rdata_size:(Tryz.prog.info? 45).map (·.size)=some 5:=by kernel_rfl
variable {X:List Nat} {a w w':World}
instance (b:Nat) (cs:Array Value) [h:Nonempty (Fr X a w)] [m:Nonempty (b∈X)]:Nonempty (Fr X a (w.setRow b cs)):=⟨h.elim (·.setRow (m.elim id) cs)⟩
theorem IR.f {c:RCtx} {s s0:RS} {w0:World} (h:IR c s w) (X:List Nat) (h0:IR c s0 w0) (hX:∀ k∈X,w0.heap.size≤k:=by first|(simp;done)|omega|(simp;omega)) [hf:Nonempty (Fr X w w')]:IR c s w':=h.fr h0 (hf.elim id) hX
theorem RowV.f {N N':Nat→Prop} {E s n:Nat} {q:Q} {v:Value} (h:RowV w N E s n q v) (X:List Nat) (hN:∀ k,N k→k<w.heap.size→N' k∧k ∉ X:=by intro k hk hl;simp at hk hl ⊢;omega) [hf:Nonempty (Fr X w w')]:RowV w' N' E s n q v:=rowk h (hf.elim id) hN
theorem Rep.f {N N':Nat→Prop} {q:Q} {cs:List Value} (h:Rep w N q cs) (X:List Nat) (hN:∀ k,N k→k<w.heap.size→N' k∧k ∉ X:=by intro k hk hl;simp at hk hl ⊢;omega) [hf:Nonempty (Fr X w w')]:Rep w' N' q cs:=repk h (hf.elim id) hN
theorem RowV.k {N N':Nat→Prop} {E s n:Nat} {q:Q} {v:Value} (h:RowV w N E s n q v) (hf:Fr X w w') (hN:∀ k,N k→k<w.heap.size→N' k∧k ∉ X:=by intro k hk hl;simp at hk hl ⊢;omega):RowV w' N' E s n q v:=rowk h hf hN
theorem Rep.k {N N':Nat→Prop} {q:Q} {cs:List Value} (h:Rep w N q cs) (hf:Fr X w w') (hN:∀ k,N k→k<w.heap.size→N' k∧k ∉ X:=by intro k hk hl;simp at hk hl ⊢;omega):Rep w' N' q cs:=repk h hf hN
theorem RowV.ks {N:Nat→Prop} {E s n:Nat} {q:Q} {v:Value} (h:RowV w N E s n q v) (hf:Fr X w w') (hN:∀ k,N k→k<w.heap.size→k ∉ X:=by intro k hk hl;simp at hk hl ⊢;omega):RowV w' N E s n q v:=rowk h hf (fun k hk hl=>⟨hk,hN k hk hl⟩)
theorem Rep.ks {N:Nat→Prop} {q:Q} {cs:List Value} (h:Rep w N q cs) (hf:Fr X w w') (hN:∀ k,N k→k<w.heap.size→k ∉ X:=by intro k hk hl;simp at hk hl ⊢;omega):Rep w' N q cs:=repk h hf (fun k hk hl=>⟨hk,hN k hk hl⟩)
theorem IR.st0 {c:RCtx} {s:RS} {w0 wx:World} (X:List Nat) (hF:Fr [c.R] w0 w) (hf:Fr [c.R] wx w') (hi:IR c s w') (hX:∀ k∈X,w0.heap.size≤k:=by first|(simp;done)|omega|(simp;omega)) [h:Nonempty (Fr (c.R :: X) w wx)]:Fr (c.R :: X) w w'∧Hid (IR c s w')∧Hid (Fr [c.R] w0 w')∧wx.heap.size≤w'.heap.size :=
 have hT:Fr (c.R :: X) w w':=(h.elim id).trans hf.wide
 ⟨hT,hid hi,hid (hF.join hT hX),hf.size⟩
theorem IR.st {c:RCtx} {s:RS} {w0 wx:World} {B T:Nat} {cs:Array Value} (X:List Nat) (hB:Blk w B T cs) (hF:Fr [c.R] w0 w) (hf:Fr [c.R] wx w') (hi:IR c s w') (hX:∀ k∈X,w0.heap.size≤k:=by first|(simp;done)|omega|(simp;omega)) (hb:B ∉ c.R :: X:=by first|(simp;done)|omega|(simp;omega)) [h:Nonempty (Fr (c.R :: X) w wx)]:Fr (c.R :: X) w w'∧Hid (Blk w' B T cs)∧Hid (IR c s w')∧Hid (Fr [c.R] w0 w')∧wx.heap.size≤w'.heap.size :=
 have hT:Fr (c.R :: X) w w':=(h.elim id).trans hf.wide
 ⟨hT,hid (hB.keep hT hb),hid hi,hid (hF.join hT hX),hf.size⟩
theorem Rel.by {sz:Nat} {β:Type} {p:Px.Rd Bool} {f g:Px.Rd β} {s s1 s2:RS} {b:β} (h1:Rel sz p s true s1) (h2:Rel sz f s1 b s2):Rel sz (p >>= fun x=>if x=true then f else g) s b s2:=Rel.bind h1 (by rw[if_pos rfl];exact h2)
theorem Rel.bn {sz:Nat} {β:Type} {p:Px.Rd Bool} {f g:Px.Rd β} {s s1 s2:RS} {b:β} (h1:Rel sz p s false s1) (h2:Rel sz g s1 b s2):Rel sz (p >>= fun x=>if x=true then f else g) s b s2:=Rel.bind h1 (by rw[if_neg (by decide)];exact h2)
theorem rneed_q (c:RCtx) (s:RS) (x:Txt) (w:World) (h:IR c s w) (hx:x∈Words:=by decide) (hl:x.length≤20000:=by decide) :
  Calls Tryz.prog 23 #[.pointer (some ⟨c.R,0,none⟩),.string ⟨x.toArray⟩] w fun e w'=>e=.returned (.tuple #[])∧∃ y s',Hid (Rel c.size (Px.expect [x]) s y s')∧Fr [c.R] w w'∧IR c s' w':=rneed_any c s x w h hx hl
theorem rnext_q (c:RCtx) (s:RS) (x:Txt) (w:World) (h:IR c s w) (hx:x∈Words:=by decide) (hl:x.length≤20000:=by decide) :
  Calls Tryz.prog 25 #[.pointer (some ⟨c.R,0,none⟩),.string ⟨x.toArray⟩] w fun e w'=>(∃ s',Hid (Rel c.size (Px.accept [x]) s true s')∧s'.mu<s.mu∧e=.returned (.bool true)∧Fr [c.R] w w'∧IR c s' w')∨(Hid (Rel c.size (Px.accept [x]) s false s)∧e=.returned (.bool false)∧Fr [c.R] w w'∧IR c s w'):=(rnext_any c s x w h hx hl).mono fun _ _ h=>h.next
theorem ris_q (c:RCtx) (s:RS) (x:Txt) (w:World) (h:IR c s w) (hx:x∈Words:=by decide) (hl:x.length≤20000:=by decide) :
  Calls Tryz.prog 62 #[.pointer (some ⟨c.R,0,none⟩),.string ⟨x.toArray⟩] w fun e w'=>(Hid (∀ ts,s=.live ts→Px.word ts=x)∧s.mu≠0∧e=.returned (.bool true)∧Fr [c.R] w w'∧IR c s w')∨(Hid (Rel c.size (Px.accept [x]) s false s)∧e=.returned (.bool false)∧Fr [c.R] w w'∧IR c s w'):=(ris_any c s x w h hx hl).mono fun _ _ h=>h.isw
set_option maxRecDepth 100000 in
set_option maxHeartbeats 1600000 in
theorem rbound_any (c:RCtx) (s:RS) (w:World) (h:IR c s w) :
  Calls Tryz.prog 97 #[.pointer (some ⟨c.R,0,none⟩)] w (RD c w (okAgg boundQ) (Px.bound c.size) s):=by
 have H:=hid h
 have HR0:=H.out.lt.1
 clear h
 go_enter Tryz.func97,Tryz.ntmps97
 go_wp2_with fail
 refine(rat_any c s _ (by exact H.out.f [] H.out)).mono ?_
 rintro e w1 ⟨_,x1,s1,rfl,hq1,hf,hi,rfl⟩
 have hT:Fr [c.R] w w1:=Fr.trans frk hf.wide
 have hz1:=hf.size;try simp at hz1
 have HB1:Hid (Blk w1 (w.heap.size) 131 #[zS,zS,zI]):=hid ((Blk.new w _ _).keep hf (by first|(simp;done)|omega|(simp;omega)))
 have HI1:=hid hi
 have HF1:=hid ((Fr.refl [c.R] w).j hT)
 have hl1:=hq1.out.mu (Shr.offset _)
 clear hT hf hi
 go_wp2_with fail
 refine(rname_any c s1 _ (by exact HI1.out.f [] H.out)).mono ?_
 rintro e w2 ⟨_,x2,s2,rfl,hq2,hf,hi,rfl⟩
 obtain⟨hT,HB2,HI2,HF2,hz2⟩:=IR.st [] HB1.out HF1.out hf hi
 try simp at hz2
 have hl2:=hq2.out.mu Shr.name
 clear hT hf hi
 have hneDB:w2.heap.size≠w.heap.size:=by omega
 have hneBD:=hneDB.symm
 go_wp2_with fail
 refine(rneed_q c s2 [58] _ (by exact HI2.out.f [w2.heap.size] H.out)).mono ?_
 rintro e w3 ⟨rfl,x3,s3,hq3,hf,hi⟩
 obtain⟨hT,HB3,HI3,HF3,hz3⟩:=IR.st [w2.heap.size] HB2.out HF2.out hf hi
 try simp at hz3
 have HD3:Hid (Blk w3 (w2.heap.size) 131 #[.string ⟨x2.toArray⟩,zS,.int .i64 x1]):=hid ((Blk.new_at (by simp)).k hf)
 have hl3:=hq3.out.mu (Shr.expect _)
 clear hT hf hi
 have hlD:=HD3.out.lt
 go_wp2_with fail
 clear hlD
 refine(rname_any c s3 _ (by exact HI3.out.f [w2.heap.size] H.out)).mono ?_
 rintro e w4 ⟨_,x4,s4,rfl,hq4,hf,hi,rfl⟩
 obtain⟨hT,HB4,HI4,HF4,hz4⟩:=IR.st [w2.heap.size] HB3.out HF3.out hf hi
 try simp at hz4
 have HD4:=hid (HD3.out.k hf)
 have hl4:=hq4.out.mu Shr.name
 clear hT hf hi
 have hlB:w.heap.size<w4.heap.size:=by omega
 have hlD:=HD4.out.lt
 have d0:=HD4.out.at 0 (v:=.string ⟨x2.toArray⟩) rfl
 obtain⟨d1,f1⟩:=HD4.out.df 1 (v:=.string ⟨#[]⟩) rfl
 have d2:=HD4.out.at 2 (v:=.int .i64 x1) rfl
 obtain⟨b0,g0⟩:=HB4.out.df 0 (v:=.string ⟨#[]⟩) rfl
 obtain⟨b1,g1⟩:=HB4.out.df 1 (v:=.string ⟨#[]⟩) rfl
 obtain⟨b2,g2⟩:=HB4.out.df 2 (v:=.int .i64 0) rfl
 go_wp2_with fail
 refine bodyPost_ret (v:=.agg #[.string ⟨x2.toArray⟩,.string ⟨x4.toArray⟩,.int .i64 x1]) (by simp[results,Tryz.results97,go_sem,hlB,hlD,d0,d1,f1,d2,b0,g0,b1,g1,b2,g2]) rfl ?_
 clear hlB hlD d0 d1 f1 d2 b0 g0 b1 g1 b2 g2
 exact RD.mk (⟨x2,x4,x1⟩) s4 (by unfold Px.bound;refine .bind hq1.out<|.bind hq2.out ?_;refine .bind hq3.out<|.bind hq4.out ?_;exact Rel.pure _ _) (HF4.out.jf [w2.heap.size,w.heap.size]) (HI4.out.f [w2.heap.size,w.heap.size] H.out) ⟨_,rfl,rep_str.2 ⟨_,rfl,rep_str.2 ⟨_,rfl,rep_int.2 ⟨_,rfl,rep_nil.2 rfl⟩⟩⟩⟩
set_option maxRecDepth 100000 in
set_option maxHeartbeats 1600000 in
theorem rparams_any (c:RCtx) (s:RS) (w:World) (h:IR c s w) :
  Calls Tryz.prog 63 #[.pointer (some ⟨c.R,0,none⟩)] w (RD c w (okRow 9 1 strQ) (Px.params) s):=by
 have H:=hid h
 have HR0:=H.out.lt.1
 clear h
 go_enter Tryz.func63,Tryz.ntmps63
 go_wp2_with fail
 refine(rnext_q c s [60] _ (by exact H.out.f [] H.out)).mono ?_
 rintro e w1 (⟨s1,hq1,hl1,rfl,hf,hi⟩|⟨hq1,rfl,hf,hi⟩)
 ·skip
  obtain⟨hT,HI1,HF1,hz1⟩:=IR.st0 [] (Fr.refl [c.R] w) hf hi
  try simp at hz1
  clear hT hf hi
  go_wp2_with fail
  refine(rnames_any c s1 _ (by exact HI1.out.f [] H.out)).mono ?_
  rintro e w2 ⟨v2,x2,s2,rfl,hq2,hf,hi,hv⟩
  obtain⟨p2,n2,k2,rfl⟩:=row_shp hv
  have hV2:=(row_of hv).k (N':=(fun k=>w.heap.size≤k)) (Fr.refl [] _)
  obtain⟨hT,HI2,HF2,hz2⟩:=IR.st0 [] HF1.out hf hi
  try simp at hz2
  have HV2:=hid hV2
  have hl2:=hq2.out.mu (Shr.list Shr.name)
  clear hT hf hi hV2 hv
  go_wp2_with fail
  refine(rneed_q c s2 [62] _ (by exact HI2.out.f [] H.out)).mono ?_
  rintro e w3 ⟨rfl,x3,s3,hq3,hf,hi⟩
  obtain⟨hT,HI3,HF3,hz3⟩:=IR.st0 [] HF2.out hf hi
  try simp at hz3
  have HV2_3:=hid (HV2.out.ks hT)
  have hl3:=hq3.out.mu (Shr.expect _)
  clear hT hf hi
  go_wp2_with fail
  first|go_ret|go_ret2
  exact RD.mk (x2) s3 (by exact Rel.optYes hq1.out hq2.out hq3.out) (HF3.out.jf []) (HI3.out.f [] H.out) (HV2_3.out.f [])
 ·skip
  obtain⟨hT,HI1,HF1,hz1⟩:=IR.st0 [] (Fr.refl [c.R] w) hf hi
  try simp at hz1
  clear hT hf hi
  go_wp2_with fail
  first|go_ret|go_ret2
  exact RD.mk ([]) s (by exact Rel.optNo hq1.out) (HF1.out.jf []) (HI1.out.f [] H.out) (RowV.nil _ _ _ _)
set_option maxRecDepth 100000 in
set_option maxHeartbeats 1600000 in
theorem rwithin_any (c:RCtx) (s:RS) (w:World) (h:IR c s w) :
  Calls Tryz.prog 140 #[.pointer (some ⟨c.R,0,none⟩)] w (RD c w (okRow 9 1 strQ) (Px.optionalList [40] Px.name [41]) s):=by
 have H:=hid h
 have HR0:=H.out.lt.1
 clear h
 go_enter Tryz.func140,Tryz.ntmps140
 go_wp2_with fail
 refine(rnext_q c s [40] _ (by exact H.out.f [] H.out)).mono ?_
 rintro e w1 (⟨s1,hq1,hl1,rfl,hf,hi⟩|⟨hq1,rfl,hf,hi⟩)
 ·skip
  obtain⟨hT,HI1,HF1,hz1⟩:=IR.st0 [] (Fr.refl [c.R] w) hf hi
  try simp at hz1
  clear hT hf hi
  go_wp2_with fail
  refine(rnames_any c s1 _ (by exact HI1.out.f [] H.out)).mono ?_
  rintro e w2 ⟨v2,x2,s2,rfl,hq2,hf,hi,hv⟩
  obtain⟨p2,n2,k2,rfl⟩:=row_shp hv
  have hV2:=(row_of hv).k (N':=(fun k=>w.heap.size≤k)) (Fr.refl [] _)
  obtain⟨hT,HI2,HF2,hz2⟩:=IR.st0 [] HF1.out hf hi
  try simp at hz2
  have HV2:=hid hV2
  have hl2:=hq2.out.mu (Shr.list Shr.name)
  clear hT hf hi hV2 hv
  go_wp2_with fail
  refine(rneed_q c s2 [41] _ (by exact HI2.out.f [] H.out)).mono ?_
  rintro e w3 ⟨rfl,x3,s3,hq3,hf,hi⟩
  obtain⟨hT,HI3,HF3,hz3⟩:=IR.st0 [] HF2.out hf hi
  try simp at hz3
  have HV2_3:=hid (HV2.out.ks hT)
  have hl3:=hq3.out.mu (Shr.expect _)
  clear hT hf hi
  go_wp2_with fail
  first|go_ret|go_ret2
  exact RD.mk (x2) s3 (by exact Rel.optYes hq1.out hq2.out hq3.out) (HF3.out.jf []) (HI3.out.f [] H.out) (HV2_3.out.f [])
 ·skip
  obtain⟨hT,HI1,HF1,hz1⟩:=IR.st0 [] (Fr.refl [c.R] w) hf hi
  try simp at hz1
  clear hT hf hi
  go_wp2_with fail
  first|go_ret|go_ret2
  exact RD.mk ([]) s (by exact Rel.optNo hq1.out) (HF1.out.jf []) (HI1.out.f [] H.out) (RowV.nil _ _ _ _)
set_option maxRecDepth 100000 in
set_option maxHeartbeats 1600000 in
theorem rpassed_any (c:RCtx) (s:RS) (w:World) (h:IR c s w) :
  Calls Tryz.prog 123 #[.pointer (some ⟨c.R,0,none⟩)] w (RD c w (okRow 9 1 strQ) (Px.possiblyEmptyList [40] Px.name [41]) s):=by
 have H:=hid h
 have HR0:=H.out.lt.1
 clear h
 go_enter Tryz.func123,Tryz.ntmps123
 go_wp2_with fail
 refine(rneed_q c s [40] _ (by exact H.out.f [] H.out)).mono ?_
 rintro e w1 ⟨rfl,x1,s1,hq1,hf,hi⟩
 obtain⟨hT,HI1,HF1,hz1⟩:=IR.st0 [] (Fr.refl [c.R] w) hf hi
 try simp at hz1
 have hl1:=hq1.out.mu (Shr.expect _)
 clear hT hf hi
 go_wp2_with fail
 refine(ris_q c s1 [41] _ (by exact HI1.out.f [] H.out)).mono ?_
 rintro e w2 (⟨hx2,hm2,rfl,hf,hi⟩|⟨hq2,rfl,hf,hi⟩)
 ·skip
  obtain⟨hT,HI2,HF2,hz2⟩:=IR.st0 [] HF1.out hf hi
  try simp at hz2
  clear hT hf hi
  go_wp2_with fail
  refine(rneed_q c s1 [41] _ (by exact HI2.out.f [] H.out)).mono ?_
  rintro e w3 ⟨rfl,x3,s3,hq3,hf,hi⟩
  obtain⟨hT,HI3,HF3,hz3⟩:=IR.st0 [] HF2.out hf hi
  try simp at hz3
  have hl3:=hq3.out.mu (Shr.expect _)
  clear hT hf hi
  go_wp2_with fail
  first|go_ret|go_ret2
  exact RD.mk ([]) s3 (by exact Rel.posNo hq1.out hq3.out hx2.out) (HF3.out.jf []) (HI3.out.f [] H.out) (RowV.nil _ _ _ _)
 ·skip
  obtain⟨hT,HI2,HF2,hz2⟩:=IR.st0 [] HF1.out hf hi
  try simp at hz2
  clear hT hf hi
  go_wp2_with fail
  refine(rnames_any c s1 _ (by exact HI2.out.f [] H.out)).mono ?_
  rintro e w4 ⟨v4,x4,s4,rfl,hq4,hf,hi,hv⟩
  obtain⟨p4,n4,k4,rfl⟩:=row_shp hv
  have hV4:=(row_of hv).k (N':=(fun k=>w.heap.size≤k)) (Fr.refl [] _)
  obtain⟨hT,HI4,HF4,hz4⟩:=IR.st0 [] HF2.out hf hi
  try simp at hz4
  have HV4:=hid hV4
  have hl4:=hq4.out.mu (Shr.list Shr.name)
  clear hT hf hi hV4 hv
  go_wp2_with fail
  refine(rneed_q c s4 [41] _ (by exact HI4.out.f [] H.out)).mono ?_
  rintro e w5 ⟨rfl,x5,s5,hq5,hf,hi⟩
  obtain⟨hT,HI5,HF5,hz5⟩:=IR.st0 [] HF4.out hf hi
  try simp at hz5
  have HV4_5:=hid (HV4.out.ks hT)
  have hl5:=hq5.out.mu (Shr.expect _)
  clear hT hf hi
  go_wp2_with fail
  first|go_ret|go_ret2
  exact RD.mk (x4) s5 (by exact Rel.posYes hq1.out hq2.out hq4.out hq5.out) (HF5.out.jf []) (HI5.out.f [] H.out) (HV4_5.out.f [])
set_option maxRecDepth 100000 in
set_option maxHeartbeats 1600000 in
theorem rbounds_any (c:RCtx) (s:RS) (w:World) (h:IR c s w) :
  Calls Tryz.prog 67 #[.pointer (some ⟨c.R,0,none⟩)] w (RD c w (okRow 131 3 boundQ) (Px.bounds c.size) s):=by
 obtain⟨i0,hi0,iz0,iz1,iz2⟩:=info_parts info_bound
 have HINF:=hid hi0
 clear hi0
 have H:=hid h
 have HR0:=H.out.lt.1
 clear h
 go_enter Tryz.func67,Tryz.ntmps67
 go_wp2_with fail
 refine(rnext_q c s [119,104,101,114,101] _ (by exact H.out.f [] H.out)).mono ?_
 rintro e w1 (⟨s1,hq1,hl1,rfl,hf,hi⟩|⟨hq1,rfl,hf,hi⟩)
 ·skip
  obtain⟨hT,HI1,HF1,hz1⟩:=IR.st0 [] (Fr.refl [c.R] w) hf hi
  try simp at hz1
  clear hT hf hi
  go_wp2_with fail
  refine(rbound_any c s1 w1 HI1.out).mono ?_
  rintro e wa hp
  obtain⟨va,a,sa,rfl,hq,hf,hi1,hv⟩:=hp
  obtain⟨cs,rfl,hrep⟩:=hv
  obtain⟨y1_0,y1_1,y1_2,rfl⟩:=cells_3 (hrep.len.trans (len_boundQ a))
  go_wp2_with fail
  have hB0:w1.heap.size≤wa.heap.size:=hf.size
  have hBw:w.heap.size≤w1.heap.size:=(HF1.out).size
  have hL1:ListAt (wa.alloc (.cells #[y1_0,y1_1,y1_2] 131)) w.heap.size 131 3 1 (boundQ a) (.slice (some ⟨wa.heap.size,0,none⟩) 1 1) :=
   ListAt.one (by omega) (alloc_new _ _) rfl (hrep.mono (fun k hk hl=>⟨⟨by omega,by omega⟩,Below.heap_alloc _ _ _ hl⟩))
  have HL1:=hid hL1
  have HF1:=hid (((HF1.out).trans hf).alloc (.cells #[y1_0,y1_1,y1_2] 131))
  have HI1:=hid (hi1.alloc (.cells #[y1_0,y1_1,y1_2] 131))
  have HJ1:=hid (LJ.start (shr_bound _) hq.out)
  have HMA:=hq.out.mu (shr_bound _)
  have HM1:1+sa.mu≤6002:=by have:=HI1.out.mu_le;omega
  clear hL1 hq hrep hf hi1
  go_loopw [3] (fun v wr=>∃ (acc:List BoundD) (s':RS),ListAt wr w.heap.size 131 3 acc.length (rowsQ boundQ acc) v∧IR c s' wr∧Fr [c.R] w wr∧acc.length+s'.mu≤6002∧LJ c.size (Px.bound c.size) s1 acc s') (fun _ wr=>rMu c wr)
  case atStart=>exact⟨[a],sa,by rw[rowsQ_one];exact HL1.out,HI1.out,HF1.out,HM1,HJ1.out⟩
  case round =>
   obtain⟨acc,s',hL,hi,hf,hn,hJ⟩:=hrel
   have HJ:=hid hJ
   have HL:=hid hL
   have HI2:=hid hi
   have HF:=hid hf
   clear hJ hL hi hf
   go_wp2_with fail
   refine(rnext_any c s' [44] wr HI2.out (by decide) (by decide)).mono ?_
   rintro e w2 hp
   rcases hp.next with ⟨s2,hq,hm,rfl,hf2,hi2⟩|⟨hq,rfl,hf2,hi2⟩
   ·clear hp
    have HQ2:=hid hq
    have HI3:=hid hi2
    have HF2:=hid hf2
    have hb2:=(hf2.size)
    clear hq hf2 hi2
    go_wp2_with fail
    refine(rbound_any c s2 w2 HI3.out).mono ?_
    rintro e w3 hp
    obtain⟨v3,b,s3,rfl,hq3,hf3,hi3,hv3⟩:=hp
    obtain⟨cs,rfl,hrep⟩:=hv3
    obtain⟨y3_0,y3_1,y3_2,rfl⟩:=cells_3 (hrep.len.trans (len_boundQ b))
    obtain⟨g1,g2,g3,g4⟩:=append_ready (news:=[y3_0,y3_1,y3_2]) HL.out hb2 (HF2.out.trans hf3) H.out.lt.1 HF.out.size hrep 131
    have G1:=hid g1
    have G2:=hid g2
    have G3:=hid g3
    have HQ3:=hid hq3
    have HF3:=hid hf3
    have HI4:=hid hi3
    have hle3:=HQ3.out.out.mu (shr_bound _)
    clear g1 g2 g3 hq3 hf3 hi3 hrep
    go_wp2_with (at_builtin;refine wpList_append_list _ rfl _ _ 35 rfl w.heap.size 131 i0 _ 3 40 Tryz.underlying35 HINF.out iz0 iz1 iz2 rfl (by decide) _ acc.length 1 (rowsQ boundQ acc) (boundQ b) rfl G1.out ⟨w3.heap.size,0,none⟩ 1 [y3_0,y3_1,y3_2] rfl (by decide) rfl G2.out G3.out ?c1 (by decide) g4 ?_)
    case c1=>omega
    intro v' w4 hL4 hg4
    have hown:∀ k,u3.ownBlock=some k→w.heap.size≤k:=fun k e=>(HL.out.own k e).1
    have hI4:=(HI4.out.alloc (.cells #[y3_0,y3_1,y3_2] 131)).grown H.out hg4 hown
    have hF4:=(((HF.out.trans HF2.out).trans HF3.out).alloc (.cells #[y3_0,y3_1,y3_2] 131)).grown hg4 hown
    have HI5:=hid hI4
    have HF5:=hid hF4
    have HL5:=hid hL4
    clear hI4 hF4 hL4 hg4 hown
    go_wp2_with fail
    go_roundw
    case rel=>exact⟨acc ++ [b],s3,by rw[List.length_append,rowsQ_snoc];exact HL5.out,HI5.out,HF5.out,by simp;omega,HJ.out.more (shr_bound _) HQ2.out.out hm HQ3.out.out⟩
    case measure=>rw[HI5.out.rMu,HI2.out.rMu];omega
   ·clear hp
    have HQ2:=hid hq
    have HI3:=hid hi2
    have HF3:=hid (HF.out.trans hf2)
    have HL3:=hid (HL.out.keep hf2 (by simpa using H.out.lt.1))
    have HLI:=hid (HJ.out.stop HQ2.out.out)
    clear hq hf2 hi2
    go_wp2_with fail
    first|go_ret|go_ret2
    exact RD.mk acc s' (by unfold Px.bounds;refine Rel.bind hq1.out ?_;simp only[if_true];exact HLI.out) HF3.out HI3.out HL3.out.row
 ·skip
  obtain⟨hT,HI1,HF1,hz1⟩:=IR.st0 [] (Fr.refl [c.R] w) hf hi
  try simp at hz1
  clear hT hf hi
  go_wp2_with fail
  first|go_ret|go_ret2
  exact RD.mk ([]) s (by unfold Px.bounds;refine Rel.bn hq1.out ?_;exact Rel.pure _ _) (HF1.out.jf []) (HI1.out.f [] H.out) (RowV.nil _ _ _ _)
set_option maxRecDepth 100000 in
set_option maxHeartbeats 1600000 in
theorem rtypes_any (c:RCtx) (n M:Nat) (x:Txt) (hx:x∈Words) (hxl:x.length≤20000) (hty:RL c 66 M (okAgg typeQ) (Px.typeF c.size n))  (s:RS) (w:World) (h:IR c s w) (hm:s.mu<M) :
  Calls Tryz.prog 96 #[.pointer (some ⟨c.R,0,none⟩),.string ⟨x.toArray⟩] w (RD c w (okRow 39 3 typeQ) ((do let l ← Px.list (Px.typeF c.size n);let _ ← Px.expect [x];pure l)) s):=by
 obtain⟨i0,hi0,iz0,iz1,iz2⟩:=info_parts info_ty
 have HINF:=hid hi0
 clear hi0
 have HTY:=hid hty
 clear hty
 have H:=hid h
 have HR0:=H.out.lt.1
 clear h
 go_enter Tryz.func96,Tryz.ntmps96
 go_wp2_with fail
 refine(HTY.out s w H.out (by omega)).mono ?_
 rintro e wa hp
 obtain⟨va,a,sa,rfl,hq,hf,hi1,hv⟩:=hp
 obtain⟨cs,rfl,hrep⟩:=hv
 obtain⟨y1_0,y1_1,y1_2,rfl⟩:=cells_3 (hrep.len.trans (len_typeQ a))
 go_wp2_with fail
 have hB0:w.heap.size≤wa.heap.size:=hf.size
 have hBw:w.heap.size≤w.heap.size:=((Fr.refl [c.R] w)).size
 have hL1:ListAt (wa.alloc (.cells #[y1_0,y1_1,y1_2] 39)) w.heap.size 39 3 1 (typeQ a) (.slice (some ⟨wa.heap.size,0,none⟩) 1 1) :=
  ListAt.one (by omega) (alloc_new _ _) rfl (hrep.mono (fun k hk hl=>⟨⟨by omega,by omega⟩,Below.heap_alloc _ _ _ hl⟩))
 have HL1:=hid hL1
 have HF1:=hid ((((Fr.refl [c.R] w)).trans hf).alloc (.cells #[y1_0,y1_1,y1_2] 39))
 have HI1:=hid (hi1.alloc (.cells #[y1_0,y1_1,y1_2] 39))
 have HJ1:=hid (LJ.start (shr_typeF _ _) hq.out)
 have HMA:=hq.out.mu (shr_typeF _ _)
 have HM1:1+sa.mu≤6002:=by have:=HI1.out.mu_le;omega
 clear hL1 hq hrep hf hi1
 go_loopw [5] (fun v wr=>∃ (acc:List TyE) (s':RS),ListAt wr w.heap.size 39 3 acc.length (rowsQ typeQ acc) v∧IR c s' wr∧Fr [c.R] w wr∧s'.mu≤s.mu∧acc.length+s'.mu≤6002∧LJ c.size (Px.typeF c.size n) s acc s') (fun _ wr=>rMu c wr)
 case atStart=>exact⟨[a],sa,by rw[rowsQ_one];exact HL1.out,HI1.out,HF1.out,HMA,HM1,HJ1.out⟩
 case round =>
  obtain⟨acc,s',hL,hi,hf,hle,hn,hJ⟩:=hrel
  have HJ:=hid hJ
  have HL:=hid hL
  have HI2:=hid hi
  have HF:=hid hf
  clear hJ hL hi hf
  go_wp2_with fail
  refine(rnext_any c s' [44] wr HI2.out (by decide) (by decide)).mono ?_
  rintro e w2 hp
  rcases hp.next with ⟨s2,hq,hm,rfl,hf2,hi2⟩|⟨hq,rfl,hf2,hi2⟩
  ·clear hp
   have HQ2:=hid hq
   have HI3:=hid hi2
   have HF2:=hid hf2
   have hb2:=(hf2.size)
   clear hq hf2 hi2
   go_wp2_with fail
   refine(HTY.out s2 w2 HI3.out (by omega)).mono ?_
   rintro e w3 hp
   obtain⟨v3,b,s3,rfl,hq3,hf3,hi3,hv3⟩:=hp
   obtain⟨cs,rfl,hrep⟩:=hv3
   obtain⟨y3_0,y3_1,y3_2,rfl⟩:=cells_3 (hrep.len.trans (len_typeQ b))
   obtain⟨g1,g2,g3,g4⟩:=append_ready (news:=[y3_0,y3_1,y3_2]) HL.out hb2 (HF2.out.trans hf3) H.out.lt.1 HF.out.size hrep 39
   have G1:=hid g1
   have G2:=hid g2
   have G3:=hid g3
   have HQ3:=hid hq3
   have HF3:=hid hf3
   have HI4:=hid hi3
   have hle3:=HQ3.out.out.mu (shr_typeF _ _)
   clear g1 g2 g3 hq3 hf3 hi3 hrep
   go_wp2_with (at_builtin;refine wpList_append_list _ rfl _ _ 37 rfl w.heap.size 39 i0 _ 3 48 Tryz.underlying37 HINF.out iz0 iz1 iz2 rfl (by decide) _ acc.length 1 (rowsQ typeQ acc) (typeQ b) rfl G1.out ⟨w3.heap.size,0,none⟩ 1 [y3_0,y3_1,y3_2] rfl (by decide) rfl G2.out G3.out ?c1 (by decide) g4 ?_)
   case c1=>omega
   intro v' w4 hL4 hg4
   have hown:∀ k,u5.ownBlock=some k→w.heap.size≤k:=fun k e=>(HL.out.own k e).1
   have hI4:=(HI4.out.alloc (.cells #[y3_0,y3_1,y3_2] 39)).grown H.out hg4 hown
   have hF4:=(((HF.out.trans HF2.out).trans HF3.out).alloc (.cells #[y3_0,y3_1,y3_2] 39)).grown hg4 hown
   have HI5:=hid hI4
   have HF5:=hid hF4
   have HL5:=hid hL4
   clear hI4 hF4 hL4 hg4 hown
   go_wp2_with fail
   go_roundw
   case rel=>exact⟨acc ++ [b],s3,by rw[List.length_append,rowsQ_snoc];exact HL5.out,HI5.out,HF5.out,by omega,by simp;omega,HJ.out.more (shr_typeF _ _) HQ2.out.out hm HQ3.out.out⟩
   case measure=>rw[HI5.out.rMu,HI2.out.rMu];omega
  ·clear hp
   have HQ2:=hid hq
   have HI3:=hid hi2
   have HF3:=hid (HF.out.trans hf2)
   have HL3:=hid (HL.out.keep hf2 (by simpa using H.out.lt.1))
   have HLI:=hid (HJ.out.stop HQ2.out.out)
   clear hq hf2 hi2
   go_wp2_with fail
   refine(rneed_any c s' x _ HI3.out hx hxl).mono ?_
   rintro e w5 hp
   obtain⟨rfl,y5,s5,hq5,hf5,hi5⟩:=hp
   have HF5:=hid (HF3.out.trans hf5)
   have HI5:=hid hi5
   have HL5:=hid (HL3.out.keep hf5 (by simpa using H.out.lt.1))
   clear hf5 hi5
   go_wp2_with fail
   first|go_ret|go_ret2
   exact RD.mk acc s5 (Rel.bind HLI.out (Rel.bind hq5.out (Rel.pure _ _))) HF5.out HI5.out HL5.out.row
end Go.Proofs.YtghohohagbbajaaGreatDoor
