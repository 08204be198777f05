/- part of the proof -/
import Derived.Test.YtghohohagbbajaaGreatDoorYKA
import Derived.StillTailTactics
set_option linter.unusedVariables false
set_option linter.unusedSimpArgs false
set_option linter.unusedSectionVars false
namespace Go.Proofs.YtghohohagbbajaaGreatDoor
open Go.RowKit Go.Lib
open Lx (Tk)
open Px (Txt TyE VarD DataD TraitD BoundD ImplD ArgD ExprD StmtD ArmD FuncD ModD)
def isNm:RS→Bool
 | .live (t :: _)=>t.kind == 1 && !Px.keyB t.text
 | _=>false
set_option maxRecDepth 100000 in
set_option maxHeartbeats 1600000 in
theorem rnamed_any (c:RCtx) (s:RS) (w:World) (h:IR c s w) :
  Calls Tryz.prog 61 #[.pointer (some ⟨c.R,0,none⟩)] w fun e w'=>e=.returned (.bool (isNm s))∧Fr [c.R] w w'∧IR c s w':=by
 have H:=hid h
 cases s with
 | dead e o =>
  obtain⟨k,cap,a,hb,ht,hk,he,_⟩:=h.dcells
  have h3:w.cell? ⟨c.R,3,none⟩=some (.int .i64 e):=hb.cell 3
  have hd:((e:Int) != 0)=true:=by simp;omega
  have hd2:((e:Int) == 0)=false:=by simp;omega
  clear h hb
  go_enter Tryz.func61,Tryz.ntmps61
  go_wp2_with fail
  go_quiet (fail)
  go_wp2_with fail
  first|go_ret|go_ret2
  exact⟨rfl,(by repeat' (first|with_reducible exact Fr.refl _ _|with_reducible refine Fr.setCell ?_ (Or.inl ?_) _|with_reducible refine Fr.alloc ?_ _|with_reducible refine Fr.drewN ?_ _|with_reducible refine Fr.drew ?_|(simp;done))),by exact H.out.drewN _⟩
 | live ts =>
  have hR:=h.lt.1
  have hTb:=h.lt.2
  obtain⟨k,cap,a,hb,ht,hk,hts,hc⟩:=h.cells
  have h0:w.cell? ⟨c.R,0,none⟩=some (.slice a c.L.length cap):=hb.cell 0
  have h1:w.cell? ⟨c.R,1,none⟩=some (.int .i64 k):=hb.cell 1
  have h3:w.cell? ⟨c.R,3,none⟩=some (.int .i64 0):=hb.cell 3
  have h30:((0:Int) == 0)=true:=rfl
  cases ts with
  | nil =>
   have hkk:k=c.L.length:=by simpa using hk
   have hg:decide ((c.L.length:Int)≤(k:Int))=true:=by simp;omega
   have hg2:decide (c.L.length≤k)=true:=by simp;omega
   have hd:decide ((k:Int)<(c.L.length:Int))=false:=by simp;omega
   have hd2:decide (k<c.L.length)=false:=by simp;omega
   clear h hb hc ht hk hkk hts
   go_enter Tryz.func61,Tryz.ntmps61
   go_wp2_with fail
   go_quiet (fail)
   go_wp2_with fail
   first|go_ret|go_ret2
   exact⟨rfl,(by repeat' (first|with_reducible exact Fr.refl _ _|with_reducible refine Fr.setCell ?_ (Or.inl ?_) _|with_reducible refine Fr.alloc ?_ _|with_reducible refine Fr.drewN ?_ _|with_reducible refine Fr.drew ?_|(simp;done))),by exact H.out.drewN _⟩
  | cons t r =>
   obtain⟨rfl,hcap,c0,c1,c2,c3⟩:=hc t r rfl
   have hlt:k<c.L.length:=by simp at hk;omega
   have hg:decide ((c.L.length:Int)≤(k:Int))=false:=by simp;omega
   have hg2:decide (c.L.length≤k)=false:=by simp;omega
   have hd:decide ((k:Int)<(c.L.length:Int))=true:=by simp;omega
   have hd2:decide (k<c.L.length)=true:=by simp;omega
   have hlen:t.text.length≤20000:=h.words t (h.mem t (by simp))
   clear h hb hc ht hk hts
   by_cases hq:t.kind=1
   ·have hq1:((t.kind:Int) == 1)=true:=by rw[hq];rfl
    have hs:isNm (.live (t :: r))=!Px.keyB t.text:=by simp[isNm,hq]
    rw[hs]
    clear hq hs
    have HK:∀ n,Calls Tryz.prog 94 #[.string ⟨t.text.toArray⟩] (w.drewN n) fun e w'=>e=.returned (.bool (Px.keyB t.text))∧Fr [] (w.drewN n) w':=fun n=>rkey_any _ _ hlen
    have HKH:=hid HK
    clear HK
    go_enter Tryz.func61,Tryz.ntmps61
    go_wp2_with fail
    go_still_tail 43,(by kernel_rfl)
    change wpList _ _ _ _ _ w.drew
    have HI2:=hid H.out.drew
    have HF2:Hid (Fr [c.R] w w.drew):=hid ((Fr.refl _ _).drew)
    generalize w.drew=w2 at HI2 HF2
    go_wp2_with fail
    refine(rkey_any t.text _ hlen).mono ?_
    rintro e w3 ⟨rfl,hf⟩
    go_wp2_with fail
    first|go_ret|go_ret2
    exact⟨rfl,HF2.out.trans (hf.mono (fun k _ hk=>by cases hk)),HI2.out.fr (X:=[]) H.out hf (by simp)⟩
   ·have hq1:((t.kind:Int) == 1)=false:=by simp;omega
    have hs:isNm (.live (t :: r))=false:=by simp[isNm,hq]
    rw[hs]
    clear hq hs
    go_enter Tryz.func61,Tryz.ntmps61
    go_wp2_with fail
    go_quiet (fail)
    go_wp2_with fail
    first|go_ret|go_ret2
    exact⟨rfl,(by repeat' (first|with_reducible exact Fr.refl _ _|with_reducible refine Fr.setCell ?_ (Or.inl ?_) _|with_reducible refine Fr.alloc ?_ _|with_reducible refine Fr.drewN ?_ _|with_reducible refine Fr.drew ?_|(simp;done))),by exact H.out.drewN _⟩
set_option maxRecDepth 100000 in
set_option maxHeartbeats 1600000 in
theorem rname_take (c:RCtx) (t:Tk) (r:List Tk) (w:World) (h:IR c (.live (t :: r)) w) (hq:t.kind=1∧Px.keyB t.text=false) :
  Calls Tryz.prog 24 #[.pointer (some ⟨c.R,0,none⟩)] w fun e w'=>e=.returned (.string ⟨t.text.toArray⟩)∧Fr [c.R] w w'∧IR c (.live r) w':=by
 have H:=hid h
 have hn:isNm (.live (t :: r))=true:=by simp[isNm,hq.1,hq.2]
 have HC:=rnamed_any c _ w h
 rw[hn] at HC
 have HH:=hid HC
 clear h HC hq hn
 go_enter Tryz.func24,Tryz.ntmps24
 go_wp2_with fail
 refine HH.out.mono ?_
 rintro e w1 ⟨rfl,hf,hi⟩
 obtain⟨k,cap,a,hb,ht,hk,hts,hc⟩:=hi.cells
 obtain⟨rfl,hcap,c0,c1,c2,c3⟩:=hc t r rfl
 have h1:w1.cell? ⟨c.R,1,none⟩=some (.int .i64 k):=hb.cell 1
 have f1:w1.frozen? ⟨c.R,1,none⟩=false:=hb.frozen 1
 have hlt:k<c.L.length:=by simp at hk;omega
 have hlen:k+1≤c.L.length:=hlt
 have hfew:=hi.few
 have hk6:k≤6000:=by omega
 have hdr:r=c.L.drop (k+1):=by rw[← List.tail_drop,← hts];rfl
 have HB:=hid hb
 have HT:=hid ht
 have HI:=hid hi
 have HF:=hid hf
 have HDR:=hid hdr
 have hne:=hi.ne
 have C1:=hid c1
 have C2:=hid c2
 have HNE:=hid hne
 clear hb ht hk hts hc hi hf hdr c0 c1 c2 c3 hne
 go_wp2_with fail
 generalize hw2:w1.setCell _ _=w2
 have HFS:Hid (Fr [c.R] w1 w2):=hid (by rw[← hw2];exact(by repeat' (first|with_reducible exact Fr.refl _ _|with_reducible refine Fr.setCell ?_ (Or.inl ?_) _|with_reducible refine Fr.alloc ?_ _|with_reducible refine Fr.drewN ?_ _|with_reducible refine Fr.drew ?_|(simp;done))))
 have HB2:Hid (Blk w2 c.R 61 #[.slice (some ⟨c.Tb,0,none⟩) c.L.length cap,.int .i64 ((k+1:Nat):Int),.int .i64 c.size,.int .i64 0,.int .i64 0]):=hid (by rw[← hw2];exact HB.out.set 1 _)
 have HI2:Hid (IR c (.live r) w2):=hid (HI.out.turn (s':=.live r) HFS.out HT.out (k+1) 0 0 HB2.out hlen ⟨rfl,rfl,HDR.out⟩)
 have k1:w2.cell? ⟨c.Tb,k * 4+1,none⟩=some (.string ⟨t.text.toArray⟩):=(HFS.out.cell HI.out.lt.2 (by simpa using HNE.out) _).trans C1.out
 have k2:w2.cell? ⟨c.Tb,k * 4+2,none⟩=some (.int .i64 t.num):=(HFS.out.cell HI.out.lt.2 (by simpa using HNE.out) _).trans C2.out
 have g0:w2.cell? ⟨c.R,0,none⟩=some (.slice (some ⟨c.Tb,0,none⟩) c.L.length cap):=HB2.out.cell 0
 have g1:w2.cell? ⟨c.R,1,none⟩=some (.int .i64 (k+1)):=HB2.out.cell 1
 have hd:decide ((k:Int)<(c.L.length:Int))=true:=by simp;omega
 have hd2:decide (k<c.L.length)=true:=by simp;omega
 clear hw2 h1 f1
 go_quiet (fail)
 try go_wp2_with fail
 first|go_ret|go_ret2
 exact⟨rfl,HF.out.trans (HFS.out.drewN _),HI2.out.drewN _⟩
theorem nm_false {sz:Nat} {s s':RS} {a:Txt} (h:isNm s=false) (h1:∀ ts,s=.live ts→s'=.dead (errOf ts) (offOf sz ts)) (h2:∀ e o,s=.dead e o→s'=s):Rel sz Px.name s a s':=by
 cases s with
 | dead e o=>exact h2 e o rfl
 | live ts =>
  have e:=h1 ts rfl
  cases ts with
  | nil=>exact e
  | cons t r =>
   have hh:Px.name (t :: r)=.bad (t :: r):=by
    simp only[Px.name]
    rw[if_neg]
    rintro⟨h3,h4⟩
    simp[isNm,h3,h4] at h
   simp only[Rel,hh]
   exact e
set_option maxRecDepth 100000 in
set_option maxHeartbeats 1600000 in
theorem rname_any (c:RCtx) (s:RS) (w:World) (h:IR c s w) :
  Calls Tryz.prog 24 #[.pointer (some ⟨c.R,0,none⟩)] w (RD c w okStr Px.name s):=by
 cases hn:isNm s with
 | true =>
  cases s with
  | dead e o=>simp[isNm] at hn
  | live ts =>
   cases ts with
   | nil=>simp[isNm] at hn
   | cons t r =>
    have hq:t.kind=1∧Px.keyB t.text=false:=by simpa [isNm] using hn
    refine(rname_take c t r w h hq).mono ?_
    rintro e w' ⟨rfl,hf,hi⟩
    refine⟨_,t.text,.live r,rfl,hid ?_,hf,hi,rfl⟩
    have hh:Px.name (t :: r)=.ok t.text r:=by simp only[Px.name];rw[if_pos hq]
    simp only[Rel,hh]
    exact⟨trivial,trivial⟩
 | false =>
  have HC:=rnamed_any c s w h
  rw[hn] at HC
  have HH:=hid HC
  have HN:=hid hn
  clear h HC hn
  go_enter Tryz.func24,Tryz.ntmps24
  go_wp2_with fail
  refine HH.out.mono ?_
  rintro e w1 ⟨rfl,hf,hi⟩
  have HF:=hid hf
  have HFA:=hid (rfail_any c s w1 hi)
  clear hf hi
  go_wp2_with fail
  refine HFA.out.mono ?_
  rintro e w2 ⟨rfl,hf2,s',hi2,hl1,hl2⟩
  have HI2:=hid hi2
  have HF2:=hid hf2
  have HR:=hid (nm_false (a:=[]) HN.out hl1 hl2)
  clear hf2 hi2 hl1 hl2
  go_wp2_with fail
  first|go_ret|go_ret2
  exact⟨_,[],s',rfl,HR,HF.out.trans HF2.out,HI2.out,rfl⟩
set_option maxRecDepth 100000 in
set_option maxHeartbeats 1600000 in
theorem rnumber_take (c:RCtx) (t:Tk) (r:List Tk) (w:World) (h:IR c (.live (t :: r)) w) (hq:t.kind=2) :
  Calls Tryz.prog 65 #[.pointer (some ⟨c.R,0,none⟩)] w fun e w'=>e=.returned (.int .i64 t.num)∧Fr [c.R] w w'∧IR c (.live r) w':=by
 have H:=hid h
 obtain⟨w1,hw1⟩:∃ w1,w1=w:=⟨_,rfl⟩
 have hR:=h.lt.1
 have hTb:=h.lt.2
 obtain⟨k,cap,a,hb,ht,hk,hts,hc⟩:=h.cells
 have h0:w.cell? ⟨c.R,0,none⟩=some (.slice a c.L.length cap):=hb.cell 0
 have h1:w.cell? ⟨c.R,1,none⟩=some (.int .i64 k):=hb.cell 1
 have h3:w.cell? ⟨c.R,3,none⟩=some (.int .i64 0):=hb.cell 3
 obtain⟨rfl,hcap,c0,c1,c2,c3⟩:=hc t r rfl
 have hlt:k<c.L.length:=by simp at hk;omega
 have hg:decide ((c.L.length:Int)≤(k:Int))=false:=by simp;omega
 have hg2:decide (c.L.length≤k)=false:=by simp;omega
 have hd:decide ((k:Int)<(c.L.length:Int))=true:=by simp;omega
 have hd2:decide (k<c.L.length)=true:=by simp;omega
 have hq1:((t.kind:Int) != 2)=false:=by rw[hq];rfl
 clear hw1 w1 h hb ht hk hts hc hq
 go_enter Tryz.func65,Tryz.ntmps65
 go_wp2_with fail
 go_quiet (fail)
 generalize hw1:w.drewN _=w1
 have hi:IR c (.live (t :: r)) w1:=by rw[← hw1];exact H.out.drewN _
 have hf:Fr [c.R] w w1:=by rw[← hw1];exact(Fr.refl _ _).drewN _
 clear hw1 h0 h1 h3 c0 c1 c2 c3 hcap hR hTb hg hg2 hd hd2 hlt
 obtain⟨k,cap,a,hb,ht,hk,hts,hc⟩:=hi.cells
 obtain⟨hae,hcap,c0,c1,c2,c3⟩:=hc t r rfl
 cases hae
 have h1:w1.cell? ⟨c.R,1,none⟩=some (.int .i64 k):=hb.cell 1
 have f1:w1.frozen? ⟨c.R,1,none⟩=false:=hb.frozen 1
 have hlt:k<c.L.length:=by simp at hk;omega
 have hlen:k+1≤c.L.length:=hlt
 have hfew:=hi.few
 have hk6:k≤6000:=by omega
 have hdr:r=c.L.drop (k+1):=by rw[← List.tail_drop,← hts];rfl
 have HB:=hid hb
 have HT:=hid ht
 have HI:=hid hi
 have HF:=hid hf
 have HDR:=hid hdr
 have hne:=hi.ne
 have C1:=hid c1
 have C2:=hid c2
 have HNE:=hid hne
 clear hb ht hk hts hc hi hf hdr c0 c1 c2 c3 hne
 go_wp2_with fail
 generalize hw2:w1.setCell _ _=w2
 have HFS:Hid (Fr [c.R] w1 w2):=hid (by rw[← hw2];exact(by repeat' (first|with_reducible exact Fr.refl _ _|with_reducible refine Fr.setCell ?_ (Or.inl ?_) _|with_reducible refine Fr.alloc ?_ _|with_reducible refine Fr.drewN ?_ _|with_reducible refine Fr.drew ?_|(simp;done))))
 have HB2:Hid (Blk w2 c.R 61 #[.slice (some ⟨c.Tb,0,none⟩) c.L.length cap,.int .i64 ((k+1:Nat):Int),.int .i64 c.size,.int .i64 0,.int .i64 0]):=hid (by rw[← hw2];exact HB.out.set 1 _)
 have HI2:Hid (IR c (.live r) w2):=hid (HI.out.turn (s':=.live r) HFS.out HT.out (k+1) 0 0 HB2.out hlen ⟨rfl,rfl,HDR.out⟩)
 have k1:w2.cell? ⟨c.Tb,k * 4+1,none⟩=some (.string ⟨t.text.toArray⟩):=(HFS.out.cell HI.out.lt.2 (by simpa using HNE.out) _).trans C1.out
 have k2:w2.cell? ⟨c.Tb,k * 4+2,none⟩=some (.int .i64 t.num):=(HFS.out.cell HI.out.lt.2 (by simpa using HNE.out) _).trans C2.out
 have g0:w2.cell? ⟨c.R,0,none⟩=some (.slice (some ⟨c.Tb,0,none⟩) c.L.length cap):=HB2.out.cell 0
 have g1:w2.cell? ⟨c.R,1,none⟩=some (.int .i64 (k+1)):=HB2.out.cell 1
 have hd:decide ((k:Int)<(c.L.length:Int))=true:=by simp;omega
 have hd2:decide (k<c.L.length)=true:=by simp;omega
 clear hw2 h1 f1
 go_quiet (fail)
 try go_wp2_with fail
 first|go_ret|go_ret2
 exact⟨rfl,HF.out.trans (HFS.out.drewN _),HI2.out.drewN _⟩
def okNatB:Nat→Nat→World→Value→Prop:=fun _ n _ v=>v=.int .i64 n∧n≤1000000000
theorem num_false {sz:Nat} {s s':RS} {a:Nat} (h:∀ t r,s=.live (t :: r)→t.kind≠2) (h1:∀ ts,s=.live ts→s'=.dead (errOf ts) (offOf sz ts)) (h2:∀ e o,s=.dead e o→s'=s):Rel sz Px.number s a s':=by
 cases s with
 | dead e o=>exact h2 e o rfl
 | live ts =>
  have e:=h1 ts rfl
  cases ts with
  | nil=>exact e
  | cons t r =>
   have hh:Px.number (t :: r)=.bad (t :: r):=by
    simp only[Px.number]
    rw[if_neg (h t r rfl)]
   simp only[Rel,hh]
   exact e
set_option maxRecDepth 100000 in
set_option maxHeartbeats 3200000 in
theorem rnumber_b (c:RCtx) (s:RS) (w:World) (h:IR c s w) :
  Calls Tryz.prog 65 #[.pointer (some ⟨c.R,0,none⟩)] w (RD c w okNatB Px.number s):=by
 have H:=hid h
 cases s with
 | dead e o =>
  obtain⟨k,cap,a,hb,ht,hk,he,_⟩:=h.dcells
  have h3:w.cell? ⟨c.R,3,none⟩=some (.int .i64 e):=hb.cell 3
  have hd:((e:Int) != 0)=true:=by simp;omega
  clear h hb
  go_enter Tryz.func65,Tryz.ntmps65
  go_wp2_with fail
  go_quiet (fail)
  generalize hw1:w.drewN _=w1
  have hi:IR c (.dead e o) w1:=by rw[← hw1];exact H.out.drewN _
  have hf:Fr [c.R] w w1:=by rw[← hw1];exact(Fr.refl _ _).drewN _
  have HF:=hid hf
  have HFA:=hid (rfail_any c _ w1 hi)
  clear hf hi hw1
  go_wp2_with fail
  refine HFA.out.mono ?_
  rintro e w2 ⟨rfl,hf2,s',hi2,hl1,hl2⟩
  have HI2:=hid hi2
  have HF2:=hid hf2
  have HR:=hid (num_false (a:=0) (fun t r h=>by cases h) hl1 hl2)
  clear hf2 hi2 hl1 hl2
  go_wp2_with fail
  first|go_ret|go_ret2
  exact⟨_,0,s',rfl,HR,HF.out.trans HF2.out,HI2.out,rfl,by decide⟩
 | live ts =>
  have hR:=h.lt.1
  have hTb:=h.lt.2
  obtain⟨k,cap,a,hb,ht,hk,hts,hc⟩:=h.cells
  have h0:w.cell? ⟨c.R,0,none⟩=some (.slice a c.L.length cap):=hb.cell 0
  have h1:w.cell? ⟨c.R,1,none⟩=some (.int .i64 k):=hb.cell 1
  have h3:w.cell? ⟨c.R,3,none⟩=some (.int .i64 0):=hb.cell 3
  cases ts with
  | nil =>
   have hkk:k=c.L.length:=by simpa using hk
   have hg:decide ((c.L.length:Int)≤(k:Int))=true:=by simp;omega
   have hg2:decide (c.L.length≤k)=true:=by simp;omega
   have hd:decide ((k:Int)<(c.L.length:Int))=false:=by simp;omega
   have hd2:decide (k<c.L.length)=false:=by simp;omega
   clear h hb hc ht hk hkk hts
   go_enter Tryz.func65,Tryz.ntmps65
   go_wp2_with fail
   go_quiet (fail)
   generalize hw1:w.drewN _=w1
   have hi:IR c (.live []) w1:=by rw[← hw1];exact H.out.drewN _
   have hf:Fr [c.R] w w1:=by rw[← hw1];exact(Fr.refl _ _).drewN _
   have HF:=hid hf
   have HFA:=hid (rfail_any c _ w1 hi)
   clear hf hi hw1
   go_wp2_with fail
   refine HFA.out.mono ?_
   rintro e w2 ⟨rfl,hf2,s',hi2,hl1,hl2⟩
   have HI2:=hid hi2
   have HF2:=hid hf2
   have HR:=hid (num_false (a:=0) (fun t r h=>by cases h) hl1 hl2)
   clear hf2 hi2 hl1 hl2
   go_wp2_with fail
   first|go_ret|go_ret2
   exact⟨_,0,s',rfl,HR,HF.out.trans HF2.out,HI2.out,rfl,by decide⟩
  | cons t r =>
   by_cases hq:t.kind=2
   ·refine(rnumber_take c t r w h hq).mono ?_
    rintro e w' ⟨rfl,hf,hi⟩
    refine⟨_,t.num,.live r,rfl,hid ?_,hf,hi,rfl,H.out.nums t (H.out.mem t (by simp))⟩
    have hh:Px.number (t :: r)=.ok t.num r:=by simp only[Px.number];rw[if_pos hq]
    simp only[Rel,hh]
    exact⟨trivial,trivial⟩
   obtain⟨rfl,hcap,c0,c1,c2,c3⟩:=hc t r rfl
   have hlt:k<c.L.length:=by simp at hk;omega
   have hg:decide ((c.L.length:Int)≤(k:Int))=false:=by simp;omega
   have hg2:decide (c.L.length≤k)=false:=by simp;omega
   have hd:decide ((k:Int)<(c.L.length:Int))=true:=by simp;omega
   have hd2:decide (k<c.L.length)=true:=by simp;omega
   have hq1:((t.kind:Int) != 2)=true:=by simp;omega
   have HQ:=hid hq
   clear h hb ht hk hts hc hq
   go_enter Tryz.func65,Tryz.ntmps65
   go_wp2_with fail
   go_quiet (fail)
   generalize hw1:w.drewN _=w1
   have hi:IR c (.live (t :: r)) w1:=by rw[← hw1];exact H.out.drewN _
   have hf:Fr [c.R] w w1:=by rw[← hw1];exact(Fr.refl _ _).drewN _
   have HF:=hid hf
   have HFA:=hid (rfail_any c _ w1 hi)
   clear hf hi hw1
   go_wp2_with fail
   refine HFA.out.mono ?_
   rintro e w2 ⟨rfl,hf2,s',hi2,hl1,hl2⟩
   have HI2:=hid hi2
   have HF2:=hid hf2
   have HR:=hid (num_false (a:=0) (fun t r h=>by cases h;exact HQ.out) hl1 hl2)
   clear hf2 hi2 hl1 hl2
   go_wp2_with fail
   first|go_ret|go_ret2
   exact⟨_,0,s',rfl,HR,HF.out.trans HF2.out,HI2.out,rfl,by decide⟩
theorem rnumber_any (c:RCtx) (s:RS) (w:World) (h:IR c s w) :
  Calls Tryz.prog 65 #[.pointer (some ⟨c.R,0,none⟩)] w (RD c w okNat Px.number s) :=
 (rnumber_b c s w h).mono fun e w' ⟨v,a,s',h1,h2,h3,h4,h5⟩=>⟨v,a,s',h1,h2,h3,h4,h5.1⟩
theorem Rel.ofZero {sz:Nat} {α:Type} {p:Px.Rd α} {s:RS} {a:α} (h:s.mu=0):Rel sz p s a s:=by
 cases s with
 | dead e o=>rfl
 | live ts=>simp[RS.mu] at h
theorem Rel.at0 {sz:Nat} {α:Type} {p q:Px.Rd α} {s s':RS} {a:α} (h:Rel sz p s a s') (e:∀ ts,s=.live ts→p ts=q ts):Rel sz q s a s':=by
 cases s with
 | dead e o=>exact h
 | live ts =>
  have:=e ts rfl
  simp only[Rel] at h ⊢
  rw[← this];exact h
theorem Rel.list {sz:Nat} {α:Type} {read:Px.Rd α} {s s1 s2:RS} {a:α} {l:List α} (h1:Rel sz read s a s1) (h2:Rel sz (Px.listT read s.mu [a]) s1 l s2):Rel sz (Px.list read) s l s2:=by
 cases s with
 | dead e o =>
  simp only[Rel] at h1
  subst h1
  exact h2
 | live ts=>exact Rel.bind (f:=fun a=>Px.listT read (ts.length+1) [a]) h1 h2
theorem Rel.listMore {sz:Nat} {α:Type} {read:Px.Rd α} {s s1 s2 s3:RS} {a:α} {acc l:List α} {k:Nat} (h1:Rel sz (Px.accept [[44]]) s true s1) (h2:Rel sz read s1 a s2) (h3:Rel sz (Px.listT read k (acc ++ [a])) s2 l s3) :
  Rel sz (Px.listT read (k+1) acc) s l s3:=by
 unfold Px.listT
 refine Rel.bind h1 ?_
 simp only[if_true]
 exact Rel.bind h2 h3
theorem Rel.listStop {sz:Nat} {α:Type} {read:Px.Rd α} {s:RS} {acc:List α} {k:Nat} (h1:Rel sz (Px.accept [[44]]) s false s) (hk:s.mu≤k):Rel sz (Px.listT read k acc) s acc s:=by
 cases k with
 | zero=>exact Rel.ofZero (by omega)
 | succ k =>
  unfold Px.listT
  refine Rel.bind h1 ?_
  simp only[Bool.false_eq_true,if_false]
  exact Rel.pure _ _
def LJ {α:Type} (sz:Nat) (read:Px.Rd α) (s0:RS) (acc:List α) (s:RS):Prop :=
 ∃ k,s.mu≤k∧∀ l s2,Rel sz (Px.listT read k acc) s l s2→Rel sz (Px.list read) s0 l s2
theorem LJ.start {α:Type} {sz:Nat} {read:Px.Rd α} {s s1:RS} {a:α} (hs:Shr read) (h:Rel sz read s a s1):LJ sz read s [a] s1 :=
 ⟨s.mu,h.mu hs,fun _ _ h2=>h.list h2⟩
theorem LJ.more {α:Type} {sz:Nat} {read:Px.Rd α} {s0 s s1 s2:RS} {a:α} {acc:List α} (h:LJ sz read s0 acc s) (hs:Shr read) (h1:Rel sz (Px.accept [[44]]) s true s1) (hm:s1.mu<s.mu) (h2:Rel sz read s1 a s2):LJ sz read s0 (acc ++ [a]) s2:=by
 obtain⟨k,hk,hall⟩:=h
 cases k with
 | zero=>omega
 | succ k=>exact⟨k,by have:=h2.mu hs;omega,fun l s3 h3=>hall l s3 (Rel.listMore h1 h2 h3)⟩
theorem LJ.stop {α:Type} {sz:Nat} {read:Px.Rd α} {s0 s:RS} {acc:List α} (h:LJ sz read s0 acc s) (h1:Rel sz (Px.accept [[44]]) s false s):Rel sz (Px.list read) s0 acc s:=by
 obtain⟨k,hk,hall⟩:=h
 exact hall _ _ (Rel.listStop h1 hk)
theorem Rel.untilMore {sz:Nat} {α:Type} {read:Px.Rd α} {s s2 s3:RS} {a:α} {acc l:List α} {k:Nat} (h1:Rel sz (Px.accept [[125]]) s false s) (h2:Rel sz read s a s2) (h3:Rel sz (Px.untilT read k (acc ++ [a])) s2 l s3) :
  Rel sz (Px.untilT read (k+1) acc) s l s3:=by
 unfold Px.untilT
 refine Rel.bind h1 ?_
 simp only[Bool.false_eq_true,if_false]
 exact Rel.bind h2 h3
theorem accept_of_expect {sz:Nat} {x y:Txt} {s s':RS} (h:Rel sz (Px.expect [x]) s y s') (hx:∀ ts,s=.live ts→Px.word ts=x):Rel sz (Px.accept [x]) s true s':=by
 cases s with
 | dead e o=>exact h
 | live ts =>
  have hw:=hx ts rfl
  have hc:([x]:List Txt).contains (Px.word ts)=true:=by rw[hw];simp
  have h1:Px.expect [x] ts=.ok (Px.word ts) ts.tail:=by simp only[Px.expect];rw[if_pos hc]
  simp only[Rel,h1] at h
  simp only[Rel,accept_at hw]
  exact⟨trivial,h.2⟩
theorem Rel.untilStop {sz:Nat} {α:Type} {read:Px.Rd α} {s s':RS} {y:Txt} {acc:List α} {k:Nat} (h1:Rel sz (Px.expect [[125]]) s y s') (hx:∀ ts,s=.live ts→Px.word ts=[125]) (hk:s.mu≤k):Rel sz (Px.untilT read k acc) s acc s':=by
 have h2:=accept_of_expect h1 hx
 cases k with
 | zero =>
  cases s with
  | dead e o=>exact h2
  | live ts=>simp[RS.mu] at hk
 | succ k =>
  unfold Px.untilT
  refine Rel.bind h2 ?_
  simp only[if_true]
  exact Rel.pure _ _
def UJ {α:Type} (sz:Nat) (read:Px.Rd α) (s0:RS) (acc:List α) (s:RS):Prop :=
 ∃ k,s.mu≤k∧∀ l s2,Rel sz (Px.untilT read k acc) s l s2→Rel sz (Px.untilBrace read) s0 l s2
theorem UJ.start {α:Type} {sz:Nat} {read:Px.Rd α} {s:RS} : UJ sz read s [] s:=by
 refine⟨s.mu,Nat.le_refl _,fun l s2 h=>?_⟩
 cases s with
 | dead e o=>exact h
 | live ts=>exact h
theorem UJ.more {α:Type} {sz:Nat} {read:Px.Rd α} {s0 s s2:RS} {a:α} {acc:List α} (h:UJ sz read s0 acc s) (hs:Strict read) (h1:Rel sz (Px.accept [[125]]) s false s) (h0:s.mu≠0) (h2:Rel sz read s a s2):UJ sz read s0 (acc ++ [a]) s2:=by
 obtain⟨k,hk,hall⟩:=h
 have hm:=h2.strict hs h0
 cases k with
 | zero=>omega
 | succ k=>exact⟨k,by omega,fun l s3 h3=>hall l s3 (Rel.untilMore h1 h2 h3)⟩
theorem UJ.stop {α:Type} {sz:Nat} {read:Px.Rd α} {s0 s s':RS} {y:Txt} {acc:List α} (h:UJ sz read s0 acc s) (h1:Rel sz (Px.expect [[125]]) s y s') (hx:∀ ts,s=.live ts→Px.word ts=[125]):Rel sz (Px.untilBrace read) s0 acc s':=by
 obtain⟨k,hk,hall⟩:=h
 exact hall _ _ (Rel.untilStop h1 hx hk)
theorem Rel.optYes {sz:Nat} {α:Type} {o cl y:Txt} {read:Px.Rd α} {s s1 s2 s3:RS} {l:List α} (h1:Rel sz (Px.accept [o]) s true s1) (h2:Rel sz (Px.list read) s1 l s2) (h3:Rel sz (Px.expect [cl]) s2 y s3):Rel sz (Px.optionalList o read cl) s l s3:=by
 unfold Px.optionalList
 refine Rel.bind h1 ?_
 simp only[if_true]
 exact Rel.bind h2 (Rel.bind h3 (Rel.pure _ _))
theorem Rel.optNo {sz:Nat} {α:Type} {o cl:Txt} {read:Px.Rd α} {s:RS} (h1:Rel sz (Px.accept [o]) s false s):Rel sz (Px.optionalList o read cl) s [] s:=by
 unfold Px.optionalList
 refine Rel.bind h1 ?_
 simp only[Bool.false_eq_true,if_false]
 exact Rel.pure _ _
theorem Rel.posNo {sz:Nat} {α:Type} {o cl y z:Txt} {read:Px.Rd α} {s s1 s2:RS} (h1:Rel sz (Px.expect [o]) s y s1) (h2:Rel sz (Px.expect [cl]) s1 z s2) (hx:∀ ts,s1=.live ts→Px.word ts=cl):Rel sz (Px.possiblyEmptyList o read cl) s [] s2:=by
 unfold Px.possiblyEmptyList
 refine Rel.bind h1 (Rel.bind (accept_of_expect h2 hx) ?_)
 simp only[if_true]
 exact Rel.pure _ _
theorem Rel.posYes {sz:Nat} {α:Type} {o cl y z:Txt} {read:Px.Rd α} {s s1 s2 s3:RS} {l:List α} (h1:Rel sz (Px.expect [o]) s y s1) (hn:Rel sz (Px.accept [cl]) s1 false s1) (h2:Rel sz (Px.list read) s1 l s2) (h3:Rel sz (Px.expect [cl]) s2 z s3):Rel sz (Px.possiblyEmptyList o read cl) s l s3:=by
 unfold Px.possiblyEmptyList
 refine Rel.bind h1 (Rel.bind hn ?_)
 simp only[Bool.false_eq_true,if_false]
 exact Rel.bind h2 (Rel.bind h3 (Rel.pure _ _))
theorem RB.isw {c:RCtx} {w w':World} {x:Txt} {s:RS} {e:Ending} (h:RB c w x false s e w') :
  (Hid (∀ ts,s=.live ts→Px.word ts=x)∧s.mu≠0∧e=.returned (.bool true)∧Fr [c.R] w w'∧IR c s w') ∨
  (Hid (Rel c.size (Px.accept [x]) s false s)∧e=.returned (.bool false)∧Fr [c.R] w w'∧IR c s w'):=by
 rcases h with ⟨t,r,rfl,hx,rfl,hf,hi⟩|⟨rfl,hn,hf,hi⟩
 ·exact .inl ⟨hid (fun ts h=>by cases h;exact hx),by simp[RS.mu],rfl,hf,hi⟩
 ·exact .inr ⟨hid (Rel.take_false hn),rfl,hf,hi⟩
def rMu (c:RCtx) (w:World):Nat :=
 match w.cell? ⟨c.R,3,none⟩,w.cell? ⟨c.R,1,none⟩ with
 | some (.int _ 0),some (.int _ k)=>c.L.length+1 - k.toNat
 | _,_=>0
theorem IR.rMu {c:RCtx} {s:RS} {w:World} (h:IR c s w):rMu c w=s.mu:=by
 cases s with
 | dead e o =>
  obtain⟨k,cap,a,hb,ht,hk,he,hc⟩:=h.dcells
  have h3:w.cell? ⟨c.R,3,none⟩=some (.int .i64 e):=hb.cell 3
  have h1:w.cell? ⟨c.R,1,none⟩=some (.int .i64 k):=hb.cell 1
  unfold Go.Proofs.YtghohohagbbajaaGreatDoor.rMu
  rw[h3,h1]
  obtain⟨n,rfl⟩:∃ n,e=n+1:=⟨e - 1,by omega⟩
  have hne:((n+1:Nat):Int)≠0:=by omega
  simp only[RS.mu]
  try (split;(rename_i heq _;simp at heq;omega);rfl)
 | live ts =>
  obtain⟨k,cap,a,hb,ht,hk,hts,hc⟩:=h.cells
  have h3:w.cell? ⟨c.R,3,none⟩=some (.int .i64 0):=hb.cell 3
  have h1:w.cell? ⟨c.R,1,none⟩=some (.int .i64 k):=hb.cell 1
  unfold Go.Proofs.YtghohohagbbajaaGreatDoor.rMu
  rw[h3,h1]
  simp only[RS.mu,Int.toNat_natCast]
  try omega
theorem IR.grown {c:RCtx} {s s0:RS} {w w' w0:World} {row:Option Nat} (h:IR c s w) (h0:IR c s0 w0) (hg:w.grownBy w' row) (hr:∀ k,row=some k→w0.heap.size≤k):IR c s w' :=
 h.same hg.size (fun k hk=>hg.block k (by have:=h.lt;rcases hk with rfl|rfl <;> omega) (fun e=>by have:=hr k e.symm;have:=h0.lt;rcases hk with rfl|rfl <;> omega))
set_option maxRecDepth 100000 in
set_option maxHeartbeats 1600000 in
theorem rnames_any (c:RCtx) (s:RS) (w:World) (h:IR c s w) :
  Calls Tryz.prog 95 #[.pointer (some ⟨c.R,0,none⟩)] w (RD c w (okRow 9 1 strQ) (Px.list Px.name) s):=by
 obtain⟨i0,hi,iz0,iz1,iz2⟩:=info_parts info_str
 have HINF:=hid hi
 clear hi
 have H:=hid h
 clear h
 go_enter Tryz.func95,Tryz.ntmps95
 go_wp2_with fail
 refine(rname_any c s w H.out).mono ?_
 rintro e w1 hp
 obtain⟨v1,a,s1,rfl,hq,hf,hi1,hv⟩:=hp
 obtain rfl:=hv
 have hrep:Rep w1 (fun k=>w.heap.size≤k) (strQ a) [.string ⟨a.toArray⟩]:=by unfold strQ;rw[rep_str];exact⟨[],rfl,rep_nil.2 rfl⟩
 go_wp2_with fail
 have hB0:=hf.size
 have hL1:ListAt (w1.alloc (.cells #[.string ⟨a.toArray⟩] 9)) w.heap.size 9 1 1 (strQ a) (.slice (some ⟨w1.heap.size,0,none⟩) 1 1) :=
  ListAt.one hB0 (alloc_new _ _) rfl (hrep.mono (fun k hk hl=>⟨⟨hk,by omega⟩,Below.heap_alloc _ _ _ hl⟩))
 have HL1:=hid hL1
 have HF1:=hid (hf.alloc (.cells #[.string ⟨a.toArray⟩] 9))
 have HI1:=hid (hi1.alloc (.cells #[.string ⟨a.toArray⟩] 9))
 have HJ1:=hid (LJ.start Shr.name hq.out)
 have HM1:1+s1.mu≤6002:=by have:=HI1.out.mu_le;omega
 clear hL1 hq hrep hf hi1
 go_loopw [3] (fun v wr=>∃ (acc:List Txt) (s':RS),ListAt wr w.heap.size 9 1 acc.length (rowsQ strQ acc) v∧IR c s' wr∧Fr [c.R] w wr∧acc.length+s'.mu≤6002∧LJ c.size (Px.name) s acc s') (fun _ wr=>rMu c wr)
 case atStart=>exact⟨[a],s1,by rw[rowsQ_one];exact HL1.out,HI1.out,HF1.out,HM1,HJ1.out⟩
 case round =>
  obtain⟨acc,s',hL,hi,hf,hn,hJ⟩:=hrel
  have HJ:=hid hJ
  have HL:=hid hL
  have HI2:=hid hi
  have HF:=hid hf
  clear hJ hL hi hf
  go_wp2_with fail
  refine(rnext_any c s' [44] wr HI2.out (by decide) (by decide)).mono ?_
  rintro e w2 hp
  rcases hp.next with ⟨s2,hq,hm,rfl,hf2,hi2⟩|⟨hq,rfl,hf2,hi2⟩
  ·clear hp
   have HQ2:=hid hq
   have HI3:=hid hi2
   have HF2:=hid hf2
   have hb2:=(hf2.size)
   clear hq hf2 hi2
   go_wp2_with fail
   refine(rname_any c s2 w2 HI3.out).mono ?_
   rintro e w3 hp
   obtain⟨v3,b,s3,rfl,hq3,hf3,hi3,hv3⟩:=hp
   obtain rfl:=hv3
   have hrep:Rep w3 (fun k=>w2.heap.size≤k) (strQ b) [.string ⟨b.toArray⟩]:=by unfold strQ;rw[rep_str];exact⟨[],rfl,rep_nil.2 rfl⟩
   obtain⟨g1,g2,g3,g4⟩:=append_ready (news:=[.string ⟨b.toArray⟩]) HL.out hb2 (HF2.out.trans hf3) H.out.lt.1 HF.out.size hrep 9
   have G1:=hid g1
   have G2:=hid g2
   have G3:=hid g3
   have HQ3:=hid hq3
   have HF3:=hid hf3
   have HI4:=hid hi3
   have hle3:=HQ3.out.out.mu Shr.name
   clear g1 g2 g3 hq3 hf3 hi3 hrep
   go_wp2_with (at_builtin;refine wpList_append_list _ rfl _ _ 23 rfl w.heap.size 9 i0 _ 1 16 Tryz.underlying23 HINF.out iz0 iz1 iz2 rfl (by decide) _ acc.length 1 (rowsQ strQ acc) (strQ b) rfl G1.out ⟨w3.heap.size,0,none⟩ 1 [.string ⟨b.toArray⟩] rfl (by decide) rfl G2.out G3.out ?c1 (by decide) g4 ?_)
   case c1=>omega
   intro v' w4 hL4 hg4
   have hown:∀ k,u3.ownBlock=some k→w.heap.size≤k:=fun k e=>(HL.out.own k e).1
   have hI4:=(HI4.out.alloc (.cells #[.string ⟨b.toArray⟩] 9)).grown H.out hg4 hown
   have hF4:=(((HF.out.trans HF2.out).trans HF3.out).alloc (.cells #[.string ⟨b.toArray⟩] 9)).grown hg4 hown
   have HI5:=hid hI4
   have HF5:=hid hF4
   have HL5:=hid hL4
   clear hI4 hF4 hL4 hg4 hown
   go_wp2_with fail
   go_roundw
   case rel=>exact⟨acc ++ [b],s3,by rw[List.length_append,rowsQ_snoc];exact HL5.out,HI5.out,HF5.out,by simp;omega,HJ.out.more Shr.name HQ2.out.out hm HQ3.out.out⟩
   case measure=>rw[HI5.out.rMu,HI2.out.rMu];omega
  ·clear hp
   have HQ2:=hid hq
   have HI3:=hid hi2
   have HF3:=hid (HF.out.trans hf2)
   have HL3:=hid (HL.out.keep hf2 (by simpa using H.out.lt.1))
   have HLI:=hid (HJ.out.stop HQ2.out.out)
   clear hq hf2 hi2
   go_wp2_with fail
   first|go_ret|go_ret2
   exact⟨_,acc,s',rfl,HLI,HF3.out,HI3.out,HL3.out.row⟩
end Go.Proofs.YtghohohagbbajaaGreatDoor
