/- part of the proof -/
import Derived.Test.YtghohohagbbajaaGreatDoorYO
set_option linter.unusedVariables false
set_option linter.unusedSimpArgs false
set_option linter.unusedSectionVars false
namespace Go.Proofs.YtghohohagbbajaaGreatDoor
open Go.RowKit Go.Lib
open Lx (Tk)
open Px (Txt TyE VarD DataD TraitD BoundD ImplD ArgD ExprD StmtD ArmD FuncD ModD)
inductive RS where
 | live (ts:List Tk)
 | dead (e o:Nat)
def RS.mu:RS→Nat
 | .live ts=>ts.length+1
 | .dead _ _=>0
def Rel (sz:Nat) {α:Type} (p:Px.Rd α):RS→α→RS→Prop
 | .live ts,a,s'=>match p ts with
  | .ok b r=>a=b∧s'=.live r
  | .bad r=>s'=.dead (errOf r) (offOf sz r)
 | .dead e o,_,s'=>s'=.dead e o
theorem Rel.pure {sz:Nat} {α:Type} (a:α) (s:RS):Rel sz (Pure.pure a:Px.Rd α) s a s:=by
 cases s with
 | live ts=>exact⟨rfl,rfl⟩
 | dead e o=>exact rfl
theorem Rel.bind {sz:Nat} {α β:Type} {p:Px.Rd α} {f:α→Px.Rd β} {s s1 s2:RS} {a:α} {b:β} (h1:Rel sz p s a s1) (h2:Rel sz (f a) s1 b s2):Rel sz (p >>= f) s b s2:=by
 cases s with
 | dead e o =>
  simp only[Rel] at h1
  subst h1
  exact h2
 | live ts =>
  simp only[Rel] at h1 ⊢
  have hb:(p >>= f) ts=match p ts with|.ok a r=>f a r|.bad r=>.bad r:=rfl
  rw[hb]
  cases hp:p ts with
  | ok a' r=>rw[hp] at h1;obtain⟨rfl,rfl⟩:=h1;simpa only [Rel] using h2
  | bad r=>rw[hp] at h1;simp only at h1;subst h1;simpa only [Rel] using h2
theorem Rel.of_eq {sz:Nat} {α:Type} {p q:Px.Rd α} {s s':RS} {a:α} (h:Rel sz p s a s') (e:p=q):Rel sz q s a s':=e ▸ h
theorem Rel.mu {sz:Nat} {α:Type} {p:Px.Rd α} {s s':RS} {a:α} (hs:Shr p) (h:Rel sz p s a s'):s'.mu≤s.mu:=by
 cases s with
 | dead e o=>simp only[Rel] at h;subst h;exact Nat.le_refl _
 | live ts =>
  simp only[Rel] at h
  cases hp:p ts with
  | ok a' r=>rw[hp] at h;obtain⟨rfl,rfl⟩:=h;have:=hs.ok hp;simp only[RS.mu];omega
  | bad r=>rw[hp] at h;simp only at h;subst h;simp[RS.mu]
theorem Rel.strict {sz:Nat} {α:Type} {p:Px.Rd α} {s s':RS} {a:α} (hs:Strict p) (h:Rel sz p s a s') (h0:s.mu≠0):s'.mu<s.mu:=by
 cases s with
 | dead e o=>exact absurd rfl h0
 | live ts =>
  simp only[Rel] at h
  cases hp:p ts with
  | ok a' r=>rw[hp] at h;obtain⟨rfl,rfl⟩:=h;have:=hs _ _ _ hp;simp only[RS.mu];omega
  | bad r=>rw[hp] at h;simp only at h;subst h;simp[RS.mu]
theorem Rel.take_true {sz:Nat} {ws:List Txt} {t:Tk} {r:List Tk} (h:ws.contains t.text=true):Rel sz (Px.accept ws) (.live (t :: r)) true (.live r):=by
 have hh:Px.accept ws (t :: r)=.ok true r:=by
  simp only[Px.accept]
  rw[if_pos (show ws.contains (Px.word (t :: r))=true from h)]
  rfl
 simp only[Rel,hh]
 exact⟨trivial,trivial⟩
theorem Rel.take_false {sz:Nat} {ws:List Txt} {s:RS} (h:∀ ts,s=.live ts→ws.contains (Px.word ts)=false):Rel sz (Px.accept ws) s false s:=by
 cases s with
 | dead e o=>rfl
 | live ts =>
  have:=h ts rfl
  simp only[Rel,Px.accept]
  rw[if_neg (by rw[this];simp)]
  exact⟨rfl,rfl⟩
def Words:List Txt:=Px.keys ++ Lx.syms
structure RCtx where
 R:Nat
 Tb:Nat
 size:Nat
 L:List Tk
 tv:Value
def TokR (w:World) (c:RCtx):Prop :=
 (c.L=[]∧∃ a cap,c.tv=.slice a 0 cap) ∨
 (c.L≠[]∧∃ cap,c.tv=.slice (some ⟨c.Tb,0,none⟩) c.L.length cap∧c.L.length≤cap∧∀ i t,c.L[i]?=some t→∀ j,j<4→w.cell? ⟨c.Tb,i * 4+j,none⟩=(tokCells t)[j]?)
theorem TokR.same {w w':World} {c:RCtx} (h:TokR w c) (hs:w'.heap[c.Tb]?=w.heap[c.Tb]?):TokR w' c:=by
 rcases h with h|⟨hne,cap,h1,h2,h3⟩
 ·exact .inl h
 ·exact .inr ⟨hne,cap,h1,h2,fun i t hi j hj=>(World.cell?_of_block (w:=w) hs).trans (h3 i t hi j hj)⟩
def RAt (c:RCtx) (k:Nat):RS→Nat→Nat→Prop
 | .live ts,e,o=>e=0∧o=0∧ts=c.L.drop k
 | .dead e' o',e,o=>e=e'∧o=o'∧e'≠0
structure IR (c:RCtx) (s:RS) (w:World):Prop where
 reader:∃ k e o:Nat,Blk w c.R 61 #[c.tv,.int .i64 k,.int .i64 c.size,.int .i64 e,.int .i64 o]∧k≤c.L.length∧RAt c k s e o
 toks:TokR w c
 tb:c.Tb<w.heap.size
 ne:c.Tb≠c.R
 few:c.L.length≤6000
 nums:∀ t∈c.L,t.num≤1000000000
 words:∀ t∈c.L,t.text.length≤20000
 kinds:∀ t∈c.L,∀ x∈Words,t.text=x→(t.kind=3∧Px.keyB x=false)∨(t.kind=1∧Px.keyB x=true)
theorem IR.lt {c:RCtx} {s:RS} {w:World} (h:IR c s w):c.R<w.heap.size∧c.Tb<w.heap.size:=by
 obtain⟨_,_,_,hb,_⟩:=h.reader
 exact⟨hb.lt,h.tb⟩
theorem IR.same {c:RCtx} {s:RS} {w w':World} (h:IR c s w) (hz:w.heap.size≤w'.heap.size) (hs:∀ k,k=c.R∨k=c.Tb→w'.heap[k]?=w.heap[k]?):IR c s w':=by
 obtain⟨k,e,o,hb,hk⟩:=h.reader
 exact⟨⟨k,e,o,(hs _ (.inl rfl)).trans hb,hk⟩,h.toks.same (hs _ (.inr rfl)),Nat.lt_of_lt_of_le h.tb hz,h.ne,h.few,h.nums,h.words,h.kinds⟩
theorem IR.alloc {c:RCtx} {s:RS} {w:World} (h:IR c s w) (o:Obj):IR c s (w.alloc o) :=
 h.same (by simp) (fun k hk=>Below.heap_alloc _ _ _ (by rcases hk with rfl|rfl;exact h.lt.1;exact h.lt.2))
theorem IR.drewN {c:RCtx} {s:RS} {w:World} (h:IR c s w) (n:Nat):IR c s (w.drewN n):=h.same (Nat.le_refl _) (fun _ _=>rfl)
theorem IR.drew {c:RCtx} {s:RS} {w:World} (h:IR c s w):IR c s w.drew:=h.same (Nat.le_refl _) (fun _ _=>rfl)
theorem IR.fr {c:RCtx} {s s0:RS} {w w' w0:World} {X:List Nat} (h:IR c s w) (h0:IR c s0 w0) (hf:Fr X w w') (hX:∀ k∈X,w0.heap.size≤k):IR c s w' :=
 h.same hf.size (fun k hk=>hf.block k (by have:=h.lt;rcases hk with rfl|rfl <;> omega) (fun hx=>by have:=hX k hx;have:=h0.lt;rcases hk with rfl|rfl <;> omega))
def RD {α:Type} (c:RCtx) (w:World) (okv:Nat→α→World→Value→Prop) (p:Px.Rd α) (s:RS) (e:Ending) (w':World):Prop :=
 ∃ (v:Value) (a:α) (s':RS),e=.returned v∧Hid (Rel c.size p s a s')∧Fr [c.R] w w'∧IR c s' w'∧okv w.heap.size a w' v
def RB (c:RCtx) (w:World) (x:Txt) (took:Bool) (s:RS) (e:Ending) (w':World):Prop :=
 (∃ t r,s=.live (t :: r)∧t.text=x∧e=.returned (.bool true)∧Fr [c.R] w w'∧IR c (if took then .live r else s) w') ∨
 (e=.returned (.bool false)∧(∀ ts,s=.live ts→([x]:List Txt).contains (Px.word ts)=false)∧Fr [c.R] w w'∧IR c s w')
theorem RB.next {c:RCtx} {w w':World} {x:Txt} {s:RS} {e:Ending} (h:RB c w x true s e w') :
  (∃ s',Hid (Rel c.size (Px.accept [x]) s true s')∧s'.mu<s.mu∧e=.returned (.bool true)∧Fr [c.R] w w'∧IR c s' w') ∨
  (Hid (Rel c.size (Px.accept [x]) s false s)∧e=.returned (.bool false)∧Fr [c.R] w w'∧IR c s w'):=by
 rcases h with ⟨t,r,rfl,hx,rfl,hf,hi⟩|⟨rfl,hn,hf,hi⟩
 ·exact .inl ⟨_,hid (Rel.take_true (by rw[hx];simp)),by simp[RS.mu],rfl,hf,hi⟩
 ·exact .inr ⟨hid (Rel.take_false hn),rfl,hf,hi⟩
theorem IR.cells {c:RCtx} {ts:List Tk} {w:World} (h:IR c (.live ts) w):∃ (k cap:Nat) (a:Option Addr),
  Blk w c.R 61 #[.slice a c.L.length cap,.int .i64 k,.int .i64 c.size,.int .i64 0,.int .i64 0]∧c.tv=.slice a c.L.length cap∧k+ts.length=c.L.length∧ts=c.L.drop k ∧
  ∀ t r,ts=t :: r→a=some ⟨c.Tb,0,none⟩∧c.L.length≤cap∧w.cell? ⟨c.Tb,k * 4,none⟩=some (.int .i64 t.kind)∧w.cell? ⟨c.Tb,k * 4+1,none⟩=some (.string ⟨t.text.toArray⟩)∧w.cell? ⟨c.Tb,k * 4+2,none⟩=some (.int .i64 t.num)∧w.cell? ⟨c.Tb,k * 4+3,none⟩=some (.int .i64 t.off):=by
 obtain⟨k,e,o,hb,hk,rfl,rfl,rfl⟩:=h.reader
 rcases h.toks with ⟨h0,a,cap,ht⟩|⟨hne,cap,ht,hc,hall⟩
 ·have hl:c.L.length=0:=by rw[h0];rfl
  refine⟨k,cap,a,by rw[hl,← ht];exact hb,by rw[hl];exact ht,by simp;omega,rfl,fun t r e=>?_⟩
  rw[h0] at e
  simp at e
 ·refine⟨k,cap,_,by rw[← ht];exact hb,ht,by simp;omega,rfl,fun t r e=>?_⟩
  have hg:c.L[k]?=some t:=by
   have:(c.L.drop k)[0]?=some t:=by rw[e];rfl
   simpa using this
  have g:=hall k t hg
  exact⟨rfl,hc,g 0 (by omega),g 1 (by omega),g 2 (by omega),g 3 (by omega)⟩
theorem IR.dcells {c:RCtx} {e o:Nat} {w:World} (h:IR c (.dead e o) w):∃ (k cap:Nat) (a:Option Addr),
  Blk w c.R 61 #[.slice a c.L.length cap,.int .i64 k,.int .i64 c.size,.int .i64 e,.int .i64 o]∧c.tv=.slice a c.L.length cap∧k≤c.L.length∧e≠0 ∧
  (k<c.L.length→∃ n:Nat,a=some ⟨c.Tb,0,none⟩∧c.L.length≤cap∧w.cell? ⟨c.Tb,k * 4+3,none⟩=some (.int .i64 n)):=by
 obtain⟨k,e,o,hb,hk,rfl,rfl,he⟩:=h.reader
 rcases h.toks with ⟨h0,a,cap,ht⟩|⟨hne,cap,ht,hc,hall⟩
 ·have hl:c.L.length=0:=by rw[h0];rfl
  exact⟨k,cap,a,by rw[hl,← ht];exact hb,by rw[hl];exact ht,hk,he,fun h=>by omega⟩
 ·exact⟨k,cap,_,by rw[← ht];exact hb,ht,hk,he,fun h=>⟨_,rfl,hc,hall k _ (List.getElem?_eq_getElem h) 3 (by omega)⟩⟩
theorem IR.turn {c:RCtx} {s s':RS} {w w2:World} (h:IR c s w) (hf:Fr [c.R] w w2) {a:Option Addr} {cap:Nat} (ht:c.tv=.slice a c.L.length cap) (k e o:Nat)
  (hb:Blk w2 c.R 61 #[.slice a c.L.length cap,.int .i64 k,.int .i64 c.size,.int .i64 e,.int .i64 o]) (hk:k≤c.L.length) (ha:RAt c k s' e o):IR c s' w2 :=
 ⟨⟨k,e,o,by rw[ht];exact hb,hk,ha⟩,h.toks.same (hf.block _ h.tb (by simpa using h.ne)),Nat.lt_of_lt_of_le h.tb hf.size,h.ne,h.few,h.nums,h.words,h.kinds⟩
def keyT (j:Nat):ByteArray:=⟨(Px.keys.getD j []).toArray⟩
theorem rkeys_any (w:World):Calls Tryz.prog 119 #[] w fun e w'=>e=.returned (.slice (some ⟨w.heap.size,0,none⟩) 32 32)∧(∀ j,j<32→w'.cell? ⟨w.heap.size,j,none⟩=some (.string (keyT j)))∧Fr [] w w':=by
 go_enter Tryz.func119,Tryz.ntmps119
 go_wp2
 go_ret
 refine⟨rfl,fun j hj=>?_,(Fr.refl _ _).alloc _⟩
 rw[World.cell?_alloc_new]
 have:∀ j,j<32→(Px.keys.map fun l=>Value.string ⟨l.toArray⟩).toArray[j]?=some (Value.string (keyT j)):=by
  intro j hj
  have hl:j<Px.keys.length:=hj
  simp[keyT,List.getD_eq_getElem?_getD,List.getElem?_eq_getElem hl]
 exact this j hj
set_option maxRecDepth 100000 in
theorem rkey_any (x:Txt) (w:World) (hx:x.length≤20000):Calls Tryz.prog 94 #[.string ⟨x.toArray⟩] w fun e w'=>e=.returned (.bool (Px.keyB x))∧Fr [] w w':=by
 have hkey:∀ j,j<32→((keyT j).toList == x)=(Px.keys.getD j [] == x):=by
  intro j hj
  rw[show (keyT j).toList=Px.keys.getD j [] by simp[keyT]]
 have hB:Px.keyB x=(List.range 32).any (fun j=>Px.keys.getD j [] == x):=by
  rw[Bool.eq_iff_iff]
  simp only[Px.keyB,List.contains_iff_mem,List.any_eq_true,List.mem_range,beq_iff_eq]
  constructor
  ·intro h
   obtain⟨j,hj,e⟩:=List.mem_iff_getElem.1 h
   exact⟨j,hj,by rw[List.getD_eq_getElem?_getD,List.getElem?_eq_getElem hj];exact e⟩
  ·rintro⟨j,hj,e⟩
   have hl:j<Px.keys.length:=hj
   rw[List.getD_eq_getElem?_getD,List.getElem?_eq_getElem hl] at e
   exact e ▸ List.getElem_mem hl
 have HK:=hid hkey
 have HB:=hid hB
 clear hkey hB
 go_enter Tryz.func94,Tryz.ntmps94
 go_wp2_with fail
 refine(rkeys_any w).mono ?_
 rintro e w1 ⟨rfl,hc,hf⟩
 have HC:=hid hc
 have HF:=hid hf
 clear hc hf
 go_wp2_with fail
 go_loopw [4] (fun v wr=>∃ i:Nat,v=.int .i64 i∧i≤32∧wr=w1∧∀ j,j<i→((keyT j).toList == x)=false) (fun v _=>32 - (RowKit.intOf v).toNat)
 case atStart=>exact⟨0,rfl,by omega,rfl,fun j hj=>by omega⟩
 case round =>
  obtain⟨i,rfl,hi,rfl,hall⟩:=hrel
  have HA:=hid hall
  clear hall
  by_cases hil:i<32
  ·have hd2:decide (i<32)=true:=by simpa using hil
   have hd3:decide ((i:Int)<32)=true:=by simp;omega
   have hk:=HC.out i hil
   cases hq:((keyT i).toList == x) with
   | true =>
    go_wp2_with fail
    go_ret
    have hkb:Px.keyB x=true:=by rw[HB.out];exact List.any_eq_true.2 ⟨i,List.mem_range.2 hil,by rw[← HK.out i hil];exact hq⟩
    rw[hkb]
    exact⟨rfl,HF.out⟩
   | false =>
    go_wp2_with fail
    go_roundw
    case rel=>exact⟨i+1,by go_num,by omega,trivial,fun j hj=>by
     rcases Nat.lt_or_ge j i with h|h
     ·exact HA.out j h
     ·have:j=i:=by omega
      rw[this];exact hq⟩
    case measure=>simp[RowKit.intOf];omega
  ·have hd2:decide (i<32)=false:=by simpa using hil
   have hd3:decide ((i:Int)<32)=false:=by simp;omega
   go_wp2_with fail
   go_ret
   have hkb:(List.range 32).any (fun j=>Px.keys.getD j [] == x)=false:=by
    rw[List.any_eq_false]
    intro j hj
    have hj':=List.mem_range.1 hj
    rw[← HK.out j hj',HA.out j (by omega)]
    simp
   rw[HB.out,hkb]
   exact⟨rfl,HF.out⟩
set_option maxRecDepth 100000 in
theorem rfail_any (c:RCtx) (s:RS) (w:World) (h:IR c s w) :
  Calls Tryz.prog 30 #[.pointer (some ⟨c.R,0,none⟩)] w fun e w'=>e=.returned (.tuple #[])∧Fr [c.R] w w'∧∃ s',IR c s' w'∧(∀ ts,s=.live ts→s'=.dead (errOf ts) (offOf c.size ts))∧(∀ e o,s=.dead e o→s'=s):=by
 have H:=hid h
 cases s with
 | dead e o =>
  obtain⟨k,cap,a,hb,ht,hk,he,_⟩:=h.dcells
  have h3:w.cell? ⟨c.R,3,none⟩=some (.int .i64 e):=hb.cell 3
  have hd:((e:Int) != 0)=true:=by simp;omega
  clear h hb
  go_enter Tryz.func30,Tryz.ntmps30
  go_wp2_with fail
  first|go_ret|go_end0|refine bodyPost_ret (results_none rfl _ _ _) rfl ?_
  exact⟨rfl,Fr.refl _ _,_,H.out,fun ts h=>by (cases h),fun _ _ _=>rfl⟩
 | live ts =>
  obtain⟨k,cap,a,hb,ht,hk,hts,hc⟩:=h.cells
  have h0:w.cell? ⟨c.R,0,none⟩=some (.slice a c.L.length cap):=hb.cell 0
  have h1:w.cell? ⟨c.R,1,none⟩=some (.int .i64 k):=hb.cell 1
  have h2:w.cell? ⟨c.R,2,none⟩=some (.int .i64 c.size):=hb.cell 2
  have h3:w.cell? ⟨c.R,3,none⟩=some (.int .i64 0):=hb.cell 3
  have h4:w.cell? ⟨c.R,4,none⟩=some (.int .i64 0):=hb.cell 4
  have f3:w.frozen? ⟨c.R,3,none⟩=false:=hb.frozen 3
  have f4:w.frozen? ⟨c.R,4,none⟩=false:=hb.frozen 4
  have HB:=hid hb
  have HT:=hid ht
  have HK:k≤c.L.length:=by omega
  cases ts with
  | nil =>
   have hkk:k=c.L.length:=by simpa using hk
   have hd:decide ((k:Int)<(c.L.length:Int))=false:=by simp;omega
   have hd2:decide (k<c.L.length)=false:=by simp;omega
   clear h hb hc ht
   go_enter Tryz.func30,Tryz.ntmps30
   go_wp2_with fail
   go_quiet (fail)
   go_wp2_with fail
   first|go_ret|go_end0|refine bodyPost_ret (results_none rfl _ _ _) rfl ?_
   have hf:Fr [c.R] w (((w.setCell ⟨c.R,3,none⟩ (.int .i64 5)).setCell ⟨c.R,4,none⟩ (.int .i64 c.size))):=((Fr.refl _ _).setCell (.inl (by simp)) _).setCell (.inl (by simp)) _
   exact⟨rfl,hf.drewN _,.dead 5 c.size,(H.out.turn (s':=.dead 5 c.size) hf HT.out k 5 c.size ((HB.out.set 3 _).set 4 _) HK ⟨rfl,rfl,by decide⟩).drewN _,fun ts h=>by (cases h;rfl),fun _ _ h=>by (cases h)⟩
  | cons t r =>
   obtain⟨rfl,hcap,c0,c1,c2,c3⟩:=hc t r rfl
   have hlt:k<c.L.length:=by simp at hk;omega
   have hd:decide ((k:Int)<(c.L.length:Int))=true:=by simp;omega
   have hd2:decide (k<c.L.length)=true:=by simp;omega
   have htb:=h.ne
   clear h hb hc ht
   go_enter Tryz.func30,Tryz.ntmps30
   go_wp2_with fail
   go_quiet (fail)
   go_wp2_with fail
   go_region
   try go_wp2_with fail
   first|go_ret|go_end0|refine bodyPost_ret (results_none rfl _ _ _) rfl ?_
   -- FAILEND
   exact⟨rfl,(by repeat' (first|with_reducible exact Fr.refl _ _|with_reducible refine Fr.setCell ?_ (Or.inl ?_) _|with_reducible refine Fr.alloc ?_ _|with_reducible refine Fr.drewN ?_ _|with_reducible refine Fr.drew ?_|(simp;done))),.dead 4 t.off,H.out.turn (s':=.dead 4 t.off) (by repeat' (first|with_reducible exact Fr.refl _ _|with_reducible refine Fr.setCell ?_ (Or.inl ?_) _|with_reducible refine Fr.alloc ?_ _|with_reducible refine Fr.drewN ?_ _|with_reducible refine Fr.drew ?_|(simp;done))) HT.out k 4 t.off ((((HB.out.set 3 _).set 4 _).set 3 _).set 4 _) HK ⟨rfl,rfl,by decide⟩,fun ts h=>by (cases h;rfl),fun _ _ h=>by (cases h)⟩
set_option maxRecDepth 100000 in
set_option maxHeartbeats 1600000 in
theorem rat_any (c:RCtx) (s:RS) (w:World) (h:IR c s w) :
  Calls Tryz.prog 26 #[.pointer (some ⟨c.R,0,none⟩)] w (RD c w okNat (Px.offsetR c.size) s):=by
 have H:=hid h
 have fin:∀ (n:Nat) (w':World),Fr [c.R] w w'→IR c s w'→(∀ ts,s=.live ts→n=offOf c.size ts)→RD c w okNat (Px.offsetR c.size) s (.returned (.int .i64 n)) w':=by
  intro n w' hf hi hn
  refine⟨_,n,s,rfl,hid ?_,hf,hi,rfl⟩
  cases s with
  | dead e o=>rfl
  | live ts =>
   have:=hn ts rfl
   subst this
   cases ts <;> exact⟨rfl,rfl⟩
 have HFIN:=hid fin
 clear fin
 cases s with
 | dead e o =>
  obtain⟨k,cap,a,hb,ht,hk,he,hc⟩:=h.dcells
  have h0:w.cell? ⟨c.R,0,none⟩=some (.slice a c.L.length cap):=hb.cell 0
  have h1:w.cell? ⟨c.R,1,none⟩=some (.int .i64 k):=hb.cell 1
  have h2:w.cell? ⟨c.R,2,none⟩=some (.int .i64 c.size):=hb.cell 2
  by_cases hlt:k<c.L.length
  ·obtain⟨n,rfl,hcap,c3⟩:=hc hlt
   have hd:decide ((k:Int)<(c.L.length:Int))=true:=by simp;omega
   have hd2:decide (k<c.L.length)=true:=by simp;omega
   clear h hb hc ht
   go_enter Tryz.func26,Tryz.ntmps26
   go_wp2_with fail
   go_quiet (fail)
   go_wp2_with fail
   go_quiet (fail)
   try go_wp2_with fail
   first|go_ret|go_ret2
   exact HFIN.out _ _ (by repeat' (first|with_reducible exact Fr.refl _ _|with_reducible refine Fr.setCell ?_ (Or.inl ?_) _|with_reducible refine Fr.alloc ?_ _|with_reducible refine Fr.drewN ?_ _|with_reducible refine Fr.drew ?_|(simp;done))) (by first|exact(H.out.drewN _).drewN _|exact H.out.drewN _) (fun ts h=>by cases h)
  ·have hd:decide ((k:Int)<(c.L.length:Int))=false:=by simp;omega
   have hd2:decide (k<c.L.length)=false:=by simp;omega
   clear h hb hc ht
   go_enter Tryz.func26,Tryz.ntmps26
   go_wp2_with fail
   go_quiet (fail)
   go_wp2_with fail
   first|go_ret|go_ret2
   exact HFIN.out _ _ (by repeat' (first|with_reducible exact Fr.refl _ _|with_reducible refine Fr.setCell ?_ (Or.inl ?_) _|with_reducible refine Fr.alloc ?_ _|with_reducible refine Fr.drewN ?_ _|with_reducible refine Fr.drew ?_|(simp;done))) (by first|exact(H.out.drewN _).drewN _|exact H.out.drewN _) (fun ts h=>by cases h)
 | live ts =>
  obtain⟨k,cap,a,hb,ht,hk,hts,hc⟩:=h.cells
  have h0:w.cell? ⟨c.R,0,none⟩=some (.slice a c.L.length cap):=hb.cell 0
  have h1:w.cell? ⟨c.R,1,none⟩=some (.int .i64 k):=hb.cell 1
  have h2:w.cell? ⟨c.R,2,none⟩=some (.int .i64 c.size):=hb.cell 2
  cases ts with
  | nil =>
   have hkk:k=c.L.length:=by simpa using hk
   have hd:decide ((k:Int)<(c.L.length:Int))=false:=by simp;omega
   have hd2:decide (k<c.L.length)=false:=by simp;omega
   clear h hb hc ht hk hkk hts
   go_enter Tryz.func26,Tryz.ntmps26
   go_wp2_with fail
   go_quiet (fail)
   go_wp2_with fail
   first|go_ret|go_ret2
   exact HFIN.out _ _ (by repeat' (first|with_reducible exact Fr.refl _ _|with_reducible refine Fr.setCell ?_ (Or.inl ?_) _|with_reducible refine Fr.alloc ?_ _|with_reducible refine Fr.drewN ?_ _|with_reducible refine Fr.drew ?_|(simp;done))) (by first|exact(H.out.drewN _).drewN _|exact H.out.drewN _) (fun ts h=>by cases h;rfl)
  | cons t r =>
   obtain⟨rfl,hcap,c0,c1,c2,c3⟩:=hc t r rfl
   have hlt:k<c.L.length:=by simp at hk;omega
   have hd:decide ((k:Int)<(c.L.length:Int))=true:=by simp;omega
   have hd2:decide (k<c.L.length)=true:=by simp;omega
   clear h hb hc ht
   go_enter Tryz.func26,Tryz.ntmps26
   go_wp2_with fail
   go_quiet (fail)
   go_wp2_with fail
   go_quiet (fail)
   try go_wp2_with fail
   first|go_ret|go_ret2
   exact HFIN.out _ _ (by repeat' (first|with_reducible exact Fr.refl _ _|with_reducible refine Fr.setCell ?_ (Or.inl ?_) _|with_reducible refine Fr.alloc ?_ _|with_reducible refine Fr.drewN ?_ _|with_reducible refine Fr.drew ?_|(simp;done))) (by first|exact(H.out.drewN _).drewN _|exact H.out.drewN _) (fun ts h=>by cases h;rfl)
theorem IR.mem {c:RCtx} {ts:List Tk} {w:World} (h:IR c (.live ts) w):∀ t∈ts,t∈c.L:=by
 obtain⟨k,cap,a,hb,ht,hk,hts,hc⟩:=h.cells
 intro t h
 rw[hts] at h
 exact List.mem_of_mem_drop h
theorem IR.mu_le {c:RCtx} {s:RS} {w:World} (h:IR c s w):s.mu≤6001:=by
 cases s with
 | dead e o=>simp[RS.mu]
 | live ts =>
  obtain⟨k,cap,a,hb,ht,hk,hts,hc⟩:=h.cells
  have:=h.few
  simp only[RS.mu]
  omega
set_option maxRecDepth 100000 in
set_option maxHeartbeats 1600000 in
theorem ris_any (c:RCtx) (s:RS) (x:Txt) (w:World) (h:IR c s w) (hx:x∈Words) (hl:x.length≤20000) :
  Calls Tryz.prog 62 #[.pointer (some ⟨c.R,0,none⟩),.string ⟨x.toArray⟩] w (RB c w x false s):=by
 have H:=hid h
 cases s with
 | dead e o =>
  obtain⟨k,cap,a,hb,ht,hk,he,_⟩:=h.dcells
  have h3:w.cell? ⟨c.R,3,none⟩=some (.int .i64 e):=hb.cell 3
  have hd:((e:Int) != 0)=true:=by simp;omega
  clear h hb
  go_enter Tryz.func62,Tryz.ntmps62
  go_wp2_with fail
  go_quiet (fail)
  go_wp2_with fail
  first|go_ret|go_ret2
  exact .inr ⟨rfl,fun ts h=>by (cases h),(by repeat' (first|with_reducible exact Fr.refl _ _|with_reducible refine Fr.setCell ?_ (Or.inl ?_) _|with_reducible refine Fr.alloc ?_ _|with_reducible refine Fr.drewN ?_ _|with_reducible refine Fr.drew ?_|(simp;done))),by exact H.out.drewN _⟩
 | live ts =>
  have hR:=h.lt.1
  have hTb:=h.lt.2
  obtain⟨k,cap,a,hb,ht,hk,hts,hc⟩:=h.cells
  have h0:w.cell? ⟨c.R,0,none⟩=some (.slice a c.L.length cap):=hb.cell 0
  have h1:w.cell? ⟨c.R,1,none⟩=some (.int .i64 k):=hb.cell 1
  have h3:w.cell? ⟨c.R,3,none⟩=some (.int .i64 0):=hb.cell 3
  cases ts with
  | nil =>
   have hkk:k=c.L.length:=by simpa using hk
   have hg:decide ((c.L.length:Int)≤(k:Int))=true:=by simp;omega
   have hg2:decide (c.L.length≤k)=true:=by simp;omega
   have hd:decide ((k:Int)<(c.L.length:Int))=false:=by simp;omega
   have hd2:decide (k<c.L.length)=false:=by simp;omega
   clear h hb hc ht hk hkk hts
   go_enter Tryz.func62,Tryz.ntmps62
   go_wp2_with fail
   go_quiet (fail)
   go_wp2_with fail
   first|go_ret|go_ret2
   exact .inr ⟨rfl,fun ts h=>by (cases h;(have:x≠[]:=by (rintro rfl;revert hx;decide));simp only[Px.word];simpa using this),(by repeat' (first|with_reducible exact Fr.refl _ _|with_reducible refine Fr.setCell ?_ (Or.inl ?_) _|with_reducible refine Fr.alloc ?_ _|with_reducible refine Fr.drewN ?_ _|with_reducible refine Fr.drew ?_|(simp;done))),by exact H.out.drewN _⟩
  | cons t r =>
   obtain⟨rfl,hcap,c0,c1,c2,c3⟩:=hc t r rfl
   have hlt:k<c.L.length:=by simp at hk;omega
   have hg:decide ((c.L.length:Int)≤(k:Int))=false:=by simp;omega
   have hg2:decide (c.L.length≤k)=false:=by simp;omega
   have hd:decide ((k:Int)<(c.L.length:Int))=true:=by simp;omega
   have hd2:decide (k<c.L.length)=true:=by simp;omega
   have hmem:t∈c.L:=h.mem t (by simp)
   have hkind:=h.kinds t hmem x hx
   have HB:=hid hb
   clear h hb hc ht hk hts hmem
   by_cases hq:t.text=x
   ·have hqb:(t.text == x)=true:=by simpa using hq
    rcases hkind hq with ⟨hk3,hkb⟩|⟨hk1,hkb⟩
    ·have hk3':((t.kind:Int) == 3)=true:=by rw[hk3];rfl
     have HQ:=hid hq
     clear hk3 hq hkind
     go_enter Tryz.func62,Tryz.ntmps62
     go_wp2_with fail
     go_quiet (fail)
     go_wp2_with fail
     generalize hw2:w.drewN _=w2
     have HB2:Hid (Blk w2 c.R 61 #[.slice (some ⟨c.Tb,0,none⟩) c.L.length cap,.int .i64 k,.int .i64 c.size,.int .i64 0,.int .i64 0]):=hid (by rw[← hw2];exact HB.out)
     have HI2:Hid (IR c (.live (t :: r)) w2):=hid (by rw[← hw2];exact H.out.drewN _)
     have HF2:Hid (Fr [c.R] w w2):=hid (by rw[← hw2];exact(Fr.refl _ _).drewN _)
     have k0:w2.cell? ⟨c.Tb,k * 4,none⟩=some (.int .i64 t.kind):=by rw[← hw2];exact c0
     have k1:w2.cell? ⟨c.Tb,k * 4+1,none⟩=some (.string ⟨t.text.toArray⟩):=by rw[← hw2];exact c1
     have k2:w2.cell? ⟨c.Tb,k * 4+2,none⟩=some (.int .i64 t.num):=by rw[← hw2];exact c2
     have k3:w2.cell? ⟨c.Tb,k * 4+3,none⟩=some (.int .i64 t.off):=by rw[← hw2];exact c3
     have g0:w2.cell? ⟨c.R,0,none⟩=some (.slice (some ⟨c.Tb,0,none⟩) c.L.length cap):=HB2.out.cell 0
     have g1:w2.cell? ⟨c.R,1,none⟩=some (.int .i64 k):=HB2.out.cell 1
     have hR2:c.R<w2.heap.size:=by rw[← hw2];exact hR
     have hTb2:c.Tb<w2.heap.size:=by rw[← hw2];exact hTb
     clear hw2 h0 h1 h3 c0 c1 c2 c3 hR hTb
     go_region
     go_wp2_with fail
     first|go_ret|go_ret2
     exact .inl ⟨t,r,rfl,HQ.out,rfl,(HF2.out.trans (by repeat' (first|with_reducible exact Fr.refl _ _|with_reducible refine Fr.setCell ?_ (Or.inl ?_) _|with_reducible refine Fr.alloc ?_ _|with_reducible refine Fr.drewN ?_ _|with_reducible refine Fr.drew ?_|(simp;done)))),(by exact(HI2.out.alloc _).drew)⟩
    ·have hk3':((t.kind:Int) == 3)=false:=by rw[hk1];rfl
     have hk1':((t.kind:Int) == 1)=true:=by rw[hk1];rfl
     have HQ:=hid hq
     have HKB:=hid hkb
     clear hk1 hq hkind hkb
     go_enter Tryz.func62,Tryz.ntmps62
     go_wp2_with fail
     go_quiet (fail)
     go_wp2_with fail
     generalize hw2:w.drewN _=w2
     have HB2:Hid (Blk w2 c.R 61 #[.slice (some ⟨c.Tb,0,none⟩) c.L.length cap,.int .i64 k,.int .i64 c.size,.int .i64 0,.int .i64 0]):=hid (by rw[← hw2];exact HB.out)
     have HI2:Hid (IR c (.live (t :: r)) w2):=hid (by rw[← hw2];exact H.out.drewN _)
     have HF2:Hid (Fr [c.R] w w2):=hid (by rw[← hw2];exact(Fr.refl _ _).drewN _)
     have k0:w2.cell? ⟨c.Tb,k * 4,none⟩=some (.int .i64 t.kind):=by rw[← hw2];exact c0
     have k1:w2.cell? ⟨c.Tb,k * 4+1,none⟩=some (.string ⟨t.text.toArray⟩):=by rw[← hw2];exact c1
     have k2:w2.cell? ⟨c.Tb,k * 4+2,none⟩=some (.int .i64 t.num):=by rw[← hw2];exact c2
     have k3:w2.cell? ⟨c.Tb,k * 4+3,none⟩=some (.int .i64 t.off):=by rw[← hw2];exact c3
     have g0:w2.cell? ⟨c.R,0,none⟩=some (.slice (some ⟨c.Tb,0,none⟩) c.L.length cap):=HB2.out.cell 0
     have g1:w2.cell? ⟨c.R,1,none⟩=some (.int .i64 k):=HB2.out.cell 1
     have hR2:c.R<w2.heap.size:=by rw[← hw2];exact hR
     have hTb2:c.Tb<w2.heap.size:=by rw[← hw2];exact hTb
     clear hw2 h0 h1 h3 c0 c1 c2 c3 hR hTb
     go_region
     go_wp2_with fail
     refine(rkey_any x _ hl).mono ?_
     rintro e w3 ⟨rfl,hf⟩
     rw[HKB.out]
     go_wp2_with fail
     first|go_ret|go_ret2
     exact .inl ⟨t,r,rfl,HQ.out,rfl,(HF2.out.trans (((((Fr.refl _ _).alloc _).drew).trans hf).mono (fun k _ hk=>by cases hk))),by exact((HI2.out.alloc _).drew).fr (X:=[]) H.out hf (by simp)⟩
   ·have hqb:(t.text == x)=false:=by simpa using hq
    have HQ:=hid hq
    clear hq hkind
    go_enter Tryz.func62,Tryz.ntmps62
    go_wp2_with fail
    go_quiet (fail)
    go_wp2_with fail
    generalize hw2:w.drewN _=w2
    have HB2:Hid (Blk w2 c.R 61 #[.slice (some ⟨c.Tb,0,none⟩) c.L.length cap,.int .i64 k,.int .i64 c.size,.int .i64 0,.int .i64 0]):=hid (by rw[← hw2];exact HB.out)
    have HI2:Hid (IR c (.live (t :: r)) w2):=hid (by rw[← hw2];exact H.out.drewN _)
    have HF2:Hid (Fr [c.R] w w2):=hid (by rw[← hw2];exact(Fr.refl _ _).drewN _)
    have k0:w2.cell? ⟨c.Tb,k * 4,none⟩=some (.int .i64 t.kind):=by rw[← hw2];exact c0
    have k1:w2.cell? ⟨c.Tb,k * 4+1,none⟩=some (.string ⟨t.text.toArray⟩):=by rw[← hw2];exact c1
    have k2:w2.cell? ⟨c.Tb,k * 4+2,none⟩=some (.int .i64 t.num):=by rw[← hw2];exact c2
    have k3:w2.cell? ⟨c.Tb,k * 4+3,none⟩=some (.int .i64 t.off):=by rw[← hw2];exact c3
    have g0:w2.cell? ⟨c.R,0,none⟩=some (.slice (some ⟨c.Tb,0,none⟩) c.L.length cap):=HB2.out.cell 0
    have g1:w2.cell? ⟨c.R,1,none⟩=some (.int .i64 k):=HB2.out.cell 1
    have hR2:c.R<w2.heap.size:=by rw[← hw2];exact hR
    have hTb2:c.Tb<w2.heap.size:=by rw[← hw2];exact hTb
    clear hw2 h0 h1 h3 c0 c1 c2 c3 hR hTb
    go_region
    go_wp2_with fail
    first|go_ret|go_ret2
    exact .inr ⟨rfl,fun ts h=>by (cases h;have:=HQ.out;simp only[Px.word];simpa using this),(HF2.out.trans (by repeat' (first|with_reducible exact Fr.refl _ _|with_reducible refine Fr.setCell ?_ (Or.inl ?_) _|with_reducible refine Fr.alloc ?_ _|with_reducible refine Fr.drewN ?_ _|with_reducible refine Fr.drew ?_|(simp;done)))),(by exact(HI2.out.alloc _).drew)⟩
set_option maxRecDepth 100000 in
set_option maxHeartbeats 1600000 in
theorem rnext_any (c:RCtx) (s:RS) (x:Txt) (w:World) (h:IR c s w) (hx:x∈Words) (hl:x.length≤20000) :
  Calls Tryz.prog 25 #[.pointer (some ⟨c.R,0,none⟩),.string ⟨x.toArray⟩] w (RB c w x true s):=by
 have H:=hid h
 have HC:=hid (ris_any c s x w h hx hl)
 clear h
 go_enter Tryz.func25,Tryz.ntmps25
 go_wp2_with fail
 refine HC.out.mono ?_
 rintro e w1 hp
 rcases hp with ⟨t,r,rfl,hq,rfl,hf,hi⟩|⟨rfl,hn,hf,hi⟩
 ·simp only[Bool.false_eq_true,if_false] at hi
  obtain⟨k,cap,a,hb,ht,hk,hts,hc⟩:=hi.cells
  have h1:w1.cell? ⟨c.R,1,none⟩=some (.int .i64 k):=hb.cell 1
  have f1:w1.frozen? ⟨c.R,1,none⟩=false:=hb.frozen 1
  have hlen:k+1≤c.L.length:=by simp at hk;omega
  have hfew:=hi.few
  have hk6:k≤6000:=by omega
  have hdr:r=c.L.drop (k+1):=by rw[← List.tail_drop,← hts];rfl
  have HB:=hid hb
  have HT:=hid ht
  have HI:=hid hi
  have HF:=hid hf
  have HDR:=hid hdr
  clear hb ht hk hts hc hi hf hdr
  go_wp2_with fail
  first|go_ret|go_ret2
  have hfs:Fr [c.R] w1 (w1.setCell ⟨c.R,1,none⟩ (.int .i64 ((k+1:Nat):Int))):=(by repeat' (first|with_reducible exact Fr.refl _ _|with_reducible refine Fr.setCell ?_ (Or.inl ?_) _|with_reducible refine Fr.alloc ?_ _|with_reducible refine Fr.drewN ?_ _|with_reducible refine Fr.drew ?_|(simp;done)))
  refine .inl ⟨t,r,rfl,hq,rfl,HF.out.trans hfs,?_⟩
  simp only[if_true]
  exact HI.out.turn (s':=.live r) hfs HT.out (k+1) 0 0 (HB.out.set 1 _) hlen ⟨rfl,rfl,HDR.out⟩
 ·have HN:=hid hn
  have HI:=hid hi
  have HF:=hid hf
  clear hn hi hf
  go_wp2_with fail
  first|go_ret|go_ret2
  exact .inr ⟨rfl,HN.out,HF.out,HI.out⟩
set_option maxRecDepth 100000 in
set_option maxHeartbeats 1600000 in
theorem rneed_any (c:RCtx) (s:RS) (x:Txt) (w:World) (h:IR c s w) (hx:x∈Words) (hl:x.length≤20000) :
  Calls Tryz.prog 23 #[.pointer (some ⟨c.R,0,none⟩),.string ⟨x.toArray⟩] w fun e w'=>e=.returned (.tuple #[])∧∃ y s',Hid (Rel c.size (Px.expect [x]) s y s')∧Fr [c.R] w w'∧IR c s' w':=by
 have HC:=hid (rnext_any c s x w h hx hl)
 clear h
 go_enter Tryz.func23,Tryz.ntmps23
 go_wp2_with fail
 refine HC.out.mono ?_
 rintro e w1 hp
 rcases hp with ⟨t,r,rfl,hq,rfl,hf,hi⟩|⟨rfl,hn,hf,hi⟩
 ·simp only[if_true] at hi
  have HI:=hid hi
  have HF:=hid hf
  clear hi hf
  go_wp2_with fail
  first|go_ret|go_end0|refine bodyPost_ret (results_none rfl _ _ _) rfl ?_
  refine⟨rfl,x,.live r,hid ?_,HF.out,HI.out⟩
  have hh:Px.expect [x] (t :: r)=.ok x r:=by
   simp only[Px.expect]
   rw[if_pos (show ([x]:List Txt).contains (Px.word (t :: r))=true by simp[Px.word,hq])]
   rw[show Px.word (t :: r)=x from hq]
   rfl
  simp only[Rel,hh]
  exact⟨trivial,trivial⟩
 ·have HN:=hid hn
  have HF:=hid hf
  have HFA:=hid (rfail_any c s w1 hi)
  clear hn hi hf
  go_wp2_with fail
  refine HFA.out.mono ?_
  rintro e w2 ⟨rfl,hf2,s',hi2,hl1,hl2⟩
  have HI2:=hid hi2
  have HF2:=hid hf2
  have H1:=hid hl1
  have H2:=hid hl2
  clear hf2 hi2 hl1 hl2
  go_wp2_with fail
  first|go_ret|go_end0|refine bodyPost_ret (results_none rfl _ _ _) rfl ?_
  refine⟨rfl,[],s',hid ?_,HF.out.trans HF2.out,HI2.out⟩
  cases s with
  | dead e o=>exact H2.out e o rfl
  | live ts =>
   have hh:Px.expect [x] ts=.bad ts:=by simp only[Px.expect];rw[if_neg (by rw[HN.out ts rfl];simp)]
   simp only[Rel,hh]
   exact H1.out ts rfl
theorem accept_at {x:Txt} {ts:List Tk} (h:Px.word ts=x):Px.accept [x] ts=.ok true ts.tail:=by simp[Px.accept,h]
theorem accept_not {x:Txt} {ts:List Tk} (h:Px.word ts≠x):Px.accept [x] ts=.ok false ts:=by
 simp only[Px.accept]
 rw[if_neg (by simpa using h)]
def refT (sz:Nat) (p:Px.Rd TyE):Px.Rd TyE:=do
 let o ← Px.offsetR sz
 if ← Px.accept [[73,110,116]] then pure (.mk [73,110,116] [] o)
 else if ← Px.accept [[65,114,101,110,97]] then pure (.mk [65,114,101,110,97] [] o)
 else if ← Px.accept [[66,111,120]] then
  let _ ← Px.expect [[60]]
  let t ← p
  let _ ← Px.expect [[62]]
  pure (.mk [66,111,120] [t] o)
 else if ← Px.accept [[67,104,97,110]] then
  let _ ← Px.expect [[60]]
  let t ← p
  let _ ← Px.expect [[62]]
  pure (.mk [67,104,97,110] [t] o)
 else if ← Px.accept [[38]] then
  let t ← p
  pure (.mk [38] [t] o)
 else if ← Px.accept [[38,33]] then
  let t ← p
  pure (.mk [38,33] [t] o)
 else
  let x ← Px.name
  let a ← Px.optionalList [60] p [62]
  pure (.mk x a o)
theorem off_b {β:Type} (sz:Nat) (f:Nat→Px.Rd β) (ts:List Tk):(Px.offsetR sz >>= f) ts=f (offOf sz ts) ts:=by cases ts <;> rfl
theorem word_b {β:Type} (f:Txt→Px.Rd β) (ts:List Tk):(Px.wordR >>= f) ts=f (Px.word ts) ts:=rfl
theorem num_b {β:Type} (f:Bool→Px.Rd β) (t:Tk) (r:List Tk):(Px.numR >>= f) (t :: r)=f (t.kind == 2) (t :: r):=rfl
theorem num_n {β:Type} (f:Bool→Px.Rd β):(Px.numR >>= f) []=f false []:=rfl
theorem acc_yes {β:Type} {x:Txt} {ts:List Tk} (h:Px.word ts=x) (f:Bool→Px.Rd β):(Px.accept [x] >>= f) ts=f true ts.tail:=by
 show Px.Rd.bind _ _ ts=_
 simp only[Px.Rd.bind,accept_at h]
theorem acc_no {β:Type} {x:Txt} {ts:List Tk} (h:Px.word ts≠x) (f:Bool→Px.Rd β):(Px.accept [x] >>= f) ts=f false ts:=by
 show Px.Rd.bind _ _ ts=_
 simp only[Px.Rd.bind,accept_not h]
theorem accs_yes {β:Type} {ws:List Txt} {ts:List Tk} (h:ws.contains (Px.word ts)=true) (f:Bool→Px.Rd β):(Px.accept ws >>= f) ts=f true ts.tail:=by
 show Px.Rd.bind _ _ ts=_
 have:Px.accept ws ts=.ok true ts.tail:=by simp only[Px.accept];rw[if_pos h]
 simp only[Px.Rd.bind,this]
theorem accs_no {β:Type} {ws:List Txt} {ts:List Tk} (h:ws.contains (Px.word ts)=false) (f:Bool→Px.Rd β):(Px.accept ws >>= f) ts=f false ts:=by
 show Px.Rd.bind _ _ ts=_
 have:Px.accept ws ts=.ok false ts:=by simp only[Px.accept];rw[if_neg (by rw[h];simp)]
 simp only[Px.Rd.bind,this]
theorem refT_eq (sz n:Nat):refT sz (Px.typeF sz n)=Px.typeF sz (n+1):=by
 funext ts
 rw[show Px.typeF sz (n+1)=_ from by rw[Px.typeF]]
 unfold refT
 by_cases h0:Px.word ts=[73,110,116]
 ·have c:([[73,110,116],[65,114,101,110,97]]:List Txt).contains (Px.word ts)=true:=by rw[h0];decide
  simp only[off_b,word_b,if_true,if_false,Bool.false_eq_true,if_true,acc_yes h0,accs_yes c,h0]
 by_cases h1:Px.word ts=[65,114,101,110,97]
 ·have c:([[73,110,116],[65,114,101,110,97]]:List Txt).contains (Px.word ts)=true:=by rw[h1];decide
  simp only[off_b,word_b,if_true,if_false,Bool.false_eq_true,acc_no h0,acc_yes h1,accs_yes c,h1]
 by_cases h2:Px.word ts=[66,111,120]
 ·have c0:([[73,110,116],[65,114,101,110,97]]:List Txt).contains (Px.word ts)=false:=by rw[h2];decide
  have c:([[66,111,120],[67,104,97,110]]:List Txt).contains (Px.word ts)=true:=by rw[h2];decide
  simp only[off_b,word_b,if_true,if_false,Bool.false_eq_true,acc_no h0,acc_no h1,acc_yes h2,accs_no c0,accs_yes c,h2]
 by_cases h3:Px.word ts=[67,104,97,110]
 ·have c0:([[73,110,116],[65,114,101,110,97]]:List Txt).contains (Px.word ts)=false:=by rw[h3];decide
  have c:([[66,111,120],[67,104,97,110]]:List Txt).contains (Px.word ts)=true:=by rw[h3];decide
  simp only[off_b,word_b,if_true,if_false,Bool.false_eq_true,acc_no h0,acc_no h1,acc_no h2,acc_yes h3,accs_no c0,accs_yes c,h3]
 by_cases h4:Px.word ts=[38]
 ·have c0:([[73,110,116],[65,114,101,110,97]]:List Txt).contains (Px.word ts)=false:=by rw[h4];decide
  have c1:([[66,111,120],[67,104,97,110]]:List Txt).contains (Px.word ts)=false:=by rw[h4];decide
  have c:([[38],[38,33]]:List Txt).contains (Px.word ts)=true:=by rw[h4];decide
  simp only[off_b,word_b,if_true,if_false,Bool.false_eq_true,acc_no h0,acc_no h1,acc_no h2,acc_no h3,acc_yes h4,accs_no c0,accs_no c1,accs_yes c,h4]
 by_cases h5:Px.word ts=[38,33]
 ·have c0:([[73,110,116],[65,114,101,110,97]]:List Txt).contains (Px.word ts)=false:=by rw[h5];decide
  have c1:([[66,111,120],[67,104,97,110]]:List Txt).contains (Px.word ts)=false:=by rw[h5];decide
  have c:([[38],[38,33]]:List Txt).contains (Px.word ts)=true:=by rw[h5];decide
  simp only[off_b,word_b,if_true,if_false,Bool.false_eq_true,acc_no h0,acc_no h1,acc_no h2,acc_no h3,acc_no h4,acc_yes h5,accs_no c0,accs_no c1,accs_yes c,h5]
 have c0:([[73,110,116],[65,114,101,110,97]]:List Txt).contains (Px.word ts)=false:=by simp[h0,h1]
 have c1:([[66,111,120],[67,104,97,110]]:List Txt).contains (Px.word ts)=false:=by simp[h2,h3]
 have c2:([[38],[38,33]]:List Txt).contains (Px.word ts)=false:=by simp[h4,h5]
 simp only[off_b,word_b,if_true,if_false,Bool.false_eq_true,acc_no h0,acc_no h1,acc_no h2,acc_no h3,acc_no h4,acc_no h5,accs_no c0,accs_no c1,accs_no c2]
def refE (sz n:Nat):Px.Rd ExprD:=do
 if ← Px.accept [[45]] then
  let k ← Px.number
  pure { Px.expr0 with kind:=1,num:=-(k:Int) }
 else if ← Px.accept [[110,101,119]] then Px.newValue
 else if ← Px.accept [[98,111,120]] then Px.operation 5 1
 else if ← Px.accept [[117,110,98,111,120]] then Px.operation 6 1
 else if ← Px.accept [[38]] then Px.reference 7 9 11
 else if ← Px.accept [[38,33]] then Px.reference 8 10 12
 else if ← Px.accept [[42]] then Px.operation 14 1
 else if ← Px.accept [[97,114,101,110,97]] then Px.operation 17 0
 else if ← Px.accept [[97,108,108,111,99]] then Px.operation 18 2
 else if ← Px.accept [[99,104,97,110]] then
  let t ← Px.typeF sz n
  pure { Px.expr0 with kind:=19,type:=[t] }
 else if ← Px.accept [[114,101,99,118]] then Px.operation 20 1
 else if ← Px.numR then
  let k ← Px.number
  pure { Px.expr0 with kind:=1,num:=k }
 else
  let x ← Px.name
  Px.afterName x
theorem refE_eq (sz n:Nat) (ts:List Tk) (hs:∀ t r,ts=t :: r→t.kind=2→t.text ∉ Words):refE sz n ts=Px.unplaced sz n ts:=by
 unfold refE Px.unplaced
 cases ts with
 | nil =>
  simp only[num_n,if_true,if_false,Bool.false_eq_true,acc_no (show Px.word []≠[45] by decide),acc_no (show Px.word []≠[110,101,119] by decide),acc_no (show Px.word []≠[98,111,120] by decide),acc_no (show Px.word []≠[117,110,98,111,120] by decide),acc_no (show Px.word []≠[38] by decide),acc_no (show Px.word []≠[38,33] by decide),acc_no (show Px.word []≠[42] by decide),acc_no (show Px.word []≠[97,114,101,110,97] by decide),acc_no (show Px.word []≠[97,108,108,111,99] by decide),acc_no (show Px.word []≠[99,104,97,110] by decide),acc_no (show Px.word []≠[114,101,99,118] by decide)]
 | cons t r =>
  by_cases h2:t.kind=2
  ·have hW:=hs t r rfl h2
   have key:∀ x∈Words,Px.word (t :: r)≠x:=fun x hx e=>hW ((show t.text=x from e).symm ▸ hx)
   have hb:(t.kind == 2)=true:=by simpa using h2
   simp only[num_b,hb,if_true,if_false,Bool.false_eq_true,acc_no (key [45] (by decide)),acc_no (key [110,101,119] (by decide)),acc_no (key [98,111,120] (by decide)),acc_no (key [117,110,98,111,120] (by decide)),acc_no (key [38] (by decide)),acc_no (key [38,33] (by decide)),acc_no (key [42] (by decide)),acc_no (key [97,114,101,110,97] (by decide)),acc_no (key [97,108,108,111,99] (by decide)),acc_no (key [99,104,97,110] (by decide)),acc_no (key [114,101,99,118] (by decide))]
  ·have hb:(t.kind == 2)=false:=by simpa using h2
   by_cases h10:Px.word (t :: r)=[45]
   ·simp only[num_b,hb,if_true,if_false,Bool.false_eq_true,acc_yes h10]
   by_cases h11:Px.word (t :: r)=[110,101,119]
   ·simp only[num_b,hb,if_true,if_false,Bool.false_eq_true,acc_yes h11,acc_no h10]
   by_cases h12:Px.word (t :: r)=[98,111,120]
   ·simp only[num_b,hb,if_true,if_false,Bool.false_eq_true,acc_yes h12,acc_no h10,acc_no h11]
   by_cases h13:Px.word (t :: r)=[117,110,98,111,120]
   ·simp only[num_b,hb,if_true,if_false,Bool.false_eq_true,acc_yes h13,acc_no h10,acc_no h11,acc_no h12]
   by_cases h14:Px.word (t :: r)=[38]
   ·simp only[num_b,hb,if_true,if_false,Bool.false_eq_true,acc_yes h14,acc_no h10,acc_no h11,acc_no h12,acc_no h13]
   by_cases h15:Px.word (t :: r)=[38,33]
   ·simp only[num_b,hb,if_true,if_false,Bool.false_eq_true,acc_yes h15,acc_no h10,acc_no h11,acc_no h12,acc_no h13,acc_no h14]
   by_cases h16:Px.word (t :: r)=[42]
   ·simp only[num_b,hb,if_true,if_false,Bool.false_eq_true,acc_yes h16,acc_no h10,acc_no h11,acc_no h12,acc_no h13,acc_no h14,acc_no h15]
   by_cases h17:Px.word (t :: r)=[97,114,101,110,97]
   ·simp only[num_b,hb,if_true,if_false,Bool.false_eq_true,acc_yes h17,acc_no h10,acc_no h11,acc_no h12,acc_no h13,acc_no h14,acc_no h15,acc_no h16]
   by_cases h18:Px.word (t :: r)=[97,108,108,111,99]
   ·simp only[num_b,hb,if_true,if_false,Bool.false_eq_true,acc_yes h18,acc_no h10,acc_no h11,acc_no h12,acc_no h13,acc_no h14,acc_no h15,acc_no h16,acc_no h17]
   by_cases h19:Px.word (t :: r)=[99,104,97,110]
   ·simp only[num_b,hb,if_true,if_false,Bool.false_eq_true,acc_yes h19,acc_no h10,acc_no h11,acc_no h12,acc_no h13,acc_no h14,acc_no h15,acc_no h16,acc_no h17,acc_no h18]
   by_cases h20:Px.word (t :: r)=[114,101,99,118]
   ·simp only[num_b,hb,if_true,if_false,Bool.false_eq_true,acc_yes h20,acc_no h10,acc_no h11,acc_no h12,acc_no h13,acc_no h14,acc_no h15,acc_no h16,acc_no h17,acc_no h18,acc_no h19]
   simp only[num_b,hb,if_true,if_false,Bool.false_eq_true,acc_no h10,acc_no h11,acc_no h12,acc_no h13,acc_no h14,acc_no h15,acc_no h16,acc_no h17,acc_no h18,acc_no h19,acc_no h20]
def refN (x:Txt):Px.Rd ExprD:=do
 if ← Px.accept [[46]] then
  let k ← Px.number
  pure { Px.expr0 with kind:=13,names:=[x],num:=k }
 else if ← Px.accept [[58,58]] then
  let y ← Px.name
  pure { Px.expr0 with kind:=16,name:=x,names:=[y] }
 else fun ts=>if Px.word ts=[40] then (do
  let l ← Px.possiblyEmptyList [40] Px.name [41]
  pure { Px.expr0 with kind:=15,name:=x,names:=l } : Px.Rd ExprD) ts
 else (pure { Px.expr0 with kind:=2,names:=[x] } : Px.Rd ExprD) ts
def OpWords:List Txt:=[[43],[45],[42],[60],[61,61]]
theorem after_op (x w:Txt) (hw:w∈OpWords):∀ ts,Px.word ts=w→Px.afterName x ts=(do
  let _ ← Px.accept [w]
  let y ← Px.name
  pure { Px.expr0 with kind:=3,op:=w,names:=[x,y] } : Px.Rd ExprD) ts:=by
 intro ts h
 have hc:OpWords.contains (Px.word ts)=true:=by rw[h];simpa using hw
 unfold OpWords at hc
 unfold Px.afterName
 simp only[word_b,accs_yes hc,acc_yes h,if_true]
 rw[h]
theorem after_no (x:Txt) (ts:List Tk) (h:∀ w∈OpWords,Px.word ts≠w):Px.afterName x ts=refN x ts:=by
 have hc:OpWords.contains (Px.word ts)=false:=by
  rw[Bool.eq_false_iff]
  intro hc
  exact h _ (by simpa using hc) rfl
 unfold OpWords at hc
 unfold Px.afterName refN
 simp only[word_b,accs_no hc,Bool.false_eq_true,if_false]
 by_cases h2:Px.word ts=[46]
 ·simp only[acc_yes h2,if_true]
 ·simp only[acc_no h2,Bool.false_eq_true,if_false]
  by_cases h3:Px.word ts=[40]
  ·have h4:Px.word ts≠[58,58]:=by rw[h3];decide
   simp only[acc_no h4,if_pos h3]
   show _=(if Px.word ts=[40] then _ else _)
   rw[if_pos h3]
  ·by_cases h4:Px.word ts=[58,58]
   ·simp only[acc_yes h4,if_neg h3]
    rfl
   ·simp only[acc_no h4,if_neg h3]
    show _=(if Px.word ts=[40] then _ else _)
    rw[if_neg h3]
    rfl
def refS (sz n m:Nat) (o:Nat):Px.Rd StmtD:=do
 if ← Px.accept [[108,101,116]] then Px.letS sz n o
 else if ← Px.accept [[42]] then Px.storeS o
 else if ← Px.accept [[105,102]] then Px.choiceS (Px.stmtF sz n m) o
 else if ← Px.accept [[119,104,105,108,101]] then Px.loopS (Px.stmtF sz n m) o
 else if ← Px.accept [[109,97,116,99,104]] then Px.matchS sz (Px.stmtF sz n m) o
 else if ← Px.accept [[114,101,116,117,114,110]] then Px.namedS 7 o
 else if ← Px.accept [[112,97,110,105,99]] then Px.bareS o
 else if ← Px.accept [[100,114,111,112]] then Px.namedS 9 o
 else if ← Px.accept [[112,114,105,110,116]] then Px.namedS 10 o
 else if ← Px.accept [[115,101,110,100]] then Px.sendS o
 else if ← Px.accept [[115,112,97,119,110]] then Px.spawnS o
 else if ← Px.accept [[102,110]] then Px.localS sz n (Px.stmtF sz n m) o
 else Px.setS sz n o
theorem take_b {β:Type} (f:Unit→Px.Rd β) (ts:List Tk):(Px.take >>= f) ts=f () ts.tail:=rfl
theorem refS_eq (sz n m:Nat):((do
  let o ← Px.offsetR sz
  refS sz n m o):Px.Rd StmtD)=Px.stmtF sz n (m+1):=by
 funext ts
 rw[show Px.stmtF sz n (m+1)=_ from by rw[Px.stmtF]]
 simp only[off_b,word_b]
 unfold refS
 by_cases h0:Px.word ts=[108,101,116]
 ·rw[h0,if_neg (by decide)]
  simp only[acc_yes h0,take_b,if_true,if_false,Bool.false_eq_true]
  rfl
 by_cases h1:Px.word ts=[42]
 ·rw[h1,if_neg (by decide)]
  simp only[acc_yes h1,take_b,if_true,if_false,Bool.false_eq_true,acc_no h0]
  rfl
 by_cases h2:Px.word ts=[105,102]
 ·rw[h2,if_neg (by decide)]
  simp only[acc_yes h2,take_b,if_true,if_false,Bool.false_eq_true,acc_no h0,acc_no h1]
  rfl
 by_cases h3:Px.word ts=[119,104,105,108,101]
 ·rw[h3,if_neg (by decide)]
  simp only[acc_yes h3,take_b,if_true,if_false,Bool.false_eq_true,acc_no h0,acc_no h1,acc_no h2]
  rfl
 by_cases h4:Px.word ts=[109,97,116,99,104]
 ·rw[h4,if_neg (by decide)]
  simp only[acc_yes h4,take_b,if_true,if_false,Bool.false_eq_true,acc_no h0,acc_no h1,acc_no h2,acc_no h3]
  rfl
 by_cases h5:Px.word ts=[114,101,116,117,114,110]
 ·rw[h5,if_neg (by decide)]
  simp only[acc_yes h5,take_b,if_true,if_false,Bool.false_eq_true,acc_no h0,acc_no h1,acc_no h2,acc_no h3,acc_no h4]
  rfl
 by_cases h6:Px.word ts=[112,97,110,105,99]
 ·rw[h6,if_neg (by decide)]
  simp only[acc_yes h6,take_b,if_true,if_false,Bool.false_eq_true,acc_no h0,acc_no h1,acc_no h2,acc_no h3,acc_no h4,acc_no h5]
  rfl
 by_cases h7:Px.word ts=[100,114,111,112]
 ·rw[h7,if_neg (by decide)]
  simp only[acc_yes h7,take_b,if_true,if_false,Bool.false_eq_true,acc_no h0,acc_no h1,acc_no h2,acc_no h3,acc_no h4,acc_no h5,acc_no h6]
  rfl
 by_cases h8:Px.word ts=[112,114,105,110,116]
 ·rw[h8,if_neg (by decide)]
  simp only[acc_yes h8,take_b,if_true,if_false,Bool.false_eq_true,acc_no h0,acc_no h1,acc_no h2,acc_no h3,acc_no h4,acc_no h5,acc_no h6,acc_no h7]
  rfl
 by_cases h9:Px.word ts=[115,101,110,100]
 ·rw[h9,if_neg (by decide)]
  simp only[acc_yes h9,take_b,if_true,if_false,Bool.false_eq_true,acc_no h0,acc_no h1,acc_no h2,acc_no h3,acc_no h4,acc_no h5,acc_no h6,acc_no h7,acc_no h8]
  rfl
 by_cases h10:Px.word ts=[115,112,97,119,110]
 ·rw[h10,if_neg (by decide)]
  simp only[acc_yes h10,take_b,if_true,if_false,Bool.false_eq_true,acc_no h0,acc_no h1,acc_no h2,acc_no h3,acc_no h4,acc_no h5,acc_no h6,acc_no h7,acc_no h8,acc_no h9]
  rfl
 by_cases h11:Px.word ts=[102,110]
 ·rw[h11,if_neg (by decide)]
  simp only[acc_yes h11,take_b,if_true,if_false,Bool.false_eq_true,acc_no h0,acc_no h1,acc_no h2,acc_no h3,acc_no h4,acc_no h5,acc_no h6,acc_no h7,acc_no h8,acc_no h9,acc_no h10]
  rfl
 have hf:Px.formOf (Px.word ts)=2:=by
  have e:∀ a b:Txt,a≠b→(a == b)=false:=fun a b h=>by simpa using h
  simp only[Px.formOf,Px.forms,List.lookup,e _ _ h0,e _ _ h1,e _ _ h2,e _ _ h3,e _ _ h4,e _ _ h5,e _ _ h6,e _ _ h7,e _ _ h8,e _ _ h9,e _ _ h10,e _ _ h11]
  rfl
 rw[if_pos hf]
 simp only[if_true,if_false,Bool.false_eq_true,acc_no h0,acc_no h1,acc_no h2,acc_no h3,acc_no h4,acc_no h5,acc_no h6,acc_no h7,acc_no h8,acc_no h9,acc_no h10,acc_no h11]
end Go.Proofs.YtghohohagbbajaaGreatDoor
