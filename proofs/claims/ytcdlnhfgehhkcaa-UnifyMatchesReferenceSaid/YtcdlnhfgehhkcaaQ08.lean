/- part of the proof -/
import Derived.Test.YtcdlnhfgehhkcaaQ07
import Derived.Deep.LoopGhost
set_option linter.unusedVariables false
set_option linter.unusedSimpArgs false
set_option linter.unusedSectionVars false
namespace Go.Proofs.Ytcdlnhfgehhkcaa
open Go.RowKit Go.Lib
open Un (kd nm ar size sizes depth depths)
namespace Un
def tm? (ts : List Tm) (i : Int) : Option Tm:=if 0 ≤ i then ts[i.toNat]? else none
def setNext (ts : List Tm) (i : Nat) (x : Int) : List Tm:=match ts[i]? with
 | some a => ts.set i { a with next:=x }
 | none => ts
def speaker : Nat → List Tm → Int → Option (List Tm × Int)
 | 0,_,_ => none
 | f + 1,ts,i => match tm? ts i with
  | none => none
  | some a => if a.next = i then some (ts,i) else match tm? ts a.next with
   | none => none
   | some c => speaker f (setNext ts i.toNat c.next) c.next
theorem setNext_len (ts : List Tm) (i : Nat) (x : Int) : (setNext ts i x).length = ts.length:=by
 unfold setNext
 cases ts[i]? <;> simp
theorem setNext_eq {ts : List Tm} {i : Nat} (h : i < ts.length) (x : Int) : setNext ts i x = ts.set i { ts[i] with next:=x }:=by
 unfold setNext
 rw [List.getElem?_eq_getElem h]
theorem speaker_len : ∀ {f : Nat} {ts ts' : List Tm} {i r : Int},speaker f ts i = some (ts',r) → ts'.length = ts.length ∧ 0 ≤ r ∧ r < ts.length
 | 0,_,_,_,_,h => by simp [speaker] at h
 | f + 1,ts,ts',i,r,h => by
  rw [speaker] at h
  cases h1 : tm? ts i with
  | none => simp [h1] at h
  | some a =>
   rw [h1] at h
   simp only at h
   split at h
   ·simp only [Option.some.injEq,Prod.mk.injEq] at h
    obtain ⟨rfl,rfl⟩:=h
    unfold tm? at h1
    split at h1
    ·rename_i h0
     have:=(List.getElem?_eq_some_iff.1 h1).1
     exact ⟨rfl,h0,by omega⟩
    ·cases h1
   ·cases h2 : tm? ts a.next with
    | none => simp [h2] at h
    | some c =>
     rw [h2] at h
     have:=speaker_len h
     rw [setNext_len] at this
     exact this
end Un
open Un (tm? setNext speaker)
theorem tm_some {ts : List Tm} {i : Int} {a : Tm} (h : tm? ts i = some a) : ∃ j : Nat,i = j ∧ j < ts.length ∧ ts[j]? = some a:=by
 unfold tm? at h
 split at h
 ·rename_i h0
  exact ⟨i.toNat,by omega,(List.getElem?_eq_some_iff.1 h).1,h⟩
 ·cases h
theorem inn_setNext {w : World} {N : Nat → Prop} : ∀ {ts : List Tm} {xs : List Value} {i : Nat} (x : Int),InN w N (rowsQ qTm ts) xs → i < ts.length → InN w N (rowsQ qTm (setNext ts i x)) (xs.set (i * 5 + 4) (.int .i64 x))
 | [],_,_,_,_,hi => by simp at hi
 | a :: r,xs,0,x,h,hi => by
  rw [Un.setNext_eq hi]
  simp only [List.getElem_cons_zero,List.set_cons_zero]
  rw [rowsQ] at h ⊢
  obtain ⟨c,d,rfl,h1,h2⟩:=h.split
  unfold qTm at h1
  obtain ⟨c1,c2,rfl,k1,k2⟩:=h1.split
  obtain ⟨p,cc,rfl,_⟩:=TyV.shape k1
  obtain ⟨pv,cv,c3,rfl,k3,k4⟩:=inn_sl k2
  obtain ⟨c4,rfl,k5⟩:=inn_int k4
  obtain rfl:=inn_nil k5
  refine InN.app (cs:=[.int .i64 (kd a.t),.int .i64 (nm a.t),.slice p (ar a.t).length cc,.slice pv a.args.length cv,.int .i64 x]) ?_ h2
  exact InN.app (y:=.sl 3 1 a.args.length (rowsQ qInt a.args) (.int x .nil)) k1 (InN.mk_sl k3 (InN.mk_int (InN.mk_nil _ _)))
 | a :: r,xs,i + 1,x,h,hi => by
  rw [Un.setNext_eq hi]
  simp only [List.getElem_cons_succ,List.set_cons_succ]
  rw [rowsQ] at h ⊢
  obtain ⟨c,d,rfl,h1,h2⟩:=h.split
  have hl : c.length = 5:=by rw [h1.len,ln_qTm]
  have:=inn_setNext x h2 (i:=i) (by simpa using hi)
  rw [Un.setNext_eq (by simpa using hi)] at this
  rw [List.set_append_right _ _ (by omega),hl,show (i + 1) * 5 + 4 - 5 = i * 5 + 4 by omega]
  exact InN.app h1 this
theorem SolV.el {w : World} {N : Nat → Prop} {b : Nat} {n : Int} {ts : List Tm} {tv : Value} (h : SolV w N b n ts tv) {i : Nat} {a : Tm} (hi : ts[i]? = some a) :
  ∃ g cap p c pv cv,tv = .slice (some ⟨g,0,none⟩) ts.length cap ∧ ts.length ≤ cap ∧ cap ≤ maxLen ∧ b < g ∧ g < w.heap.size ∧
   w.cell? ⟨g,i * 5,none⟩ = some (.int .i64 (kd a.t)) ∧ w.cell? ⟨g,i * 5 + 1,none⟩ = some (.int .i64 (nm a.t)) ∧ w.cell? ⟨g,i * 5 + 2,none⟩ = some (.slice p (ar a.t).length c) ∧ w.cell? ⟨g,i * 5 + 3,none⟩ = some (.slice pv a.args.length cv) ∧ w.cell? ⟨g,i * 5 + 4,none⟩ = some (.int .i64 a.next) ∧ (∀ o,w.frozen? ⟨g,o,none⟩ = false) ∧
   TyV w (fun k => (k ≠ b ∧ N k) ∧ g ≠ k) a.t [.int .i64 (kd a.t),.int .i64 (nm a.t),.slice p (ar a.t).length c] ∧ IntsV w (fun k => (k ≠ b ∧ N k) ∧ g ≠ k) a.args (.slice pv a.args.length cv):=by
 obtain ⟨xs,h1,hq⟩:=h.l
 have hlt : i < ts.length:=(List.getElem?_eq_some_iff.1 hi).1
 rcases h1.2 with ⟨_,h0⟩ | ⟨g,cap,cur,rfl,hB,hg,c1,c2,c3,c4⟩
 ·omega
 ·obtain ⟨ds,k1,k2,k3⟩:=InN.get (f:=qTm) (s:=5) ln_qTm ts xs i a hq hi
  unfold qTm at k1
  obtain ⟨d1,d2,rfl,m1,m2⟩:=k1.split
  obtain ⟨p,c,rfl,_⟩:=TyV.shape m1
  obtain ⟨pv,cv,d3,rfl,m3,m4⟩:=inn_sl m2
  obtain ⟨d4,rfl,m5⟩:=inn_int m4
  obtain rfl:=inn_nil m5
  have hcell : ∀ j,j < 5 → w.cell? ⟨g,i * 5 + j,none⟩ = [Value.int .i64 (kd a.t),.int .i64 (nm a.t),.slice p (ar a.t).length c,.slice pv a.args.length cv,.int .i64 a.next][j]?:=fun j hj => by
   have h2:=k3 j hj
   rw [(show w.cell? ⟨g,i * 5 + j,none⟩ = cur[i * 5 + j]? from Blk.cell hg _)]
   rw [← c4,List.getElem?_take,if_pos (by omega)] at h2
   simpa using h2
  refine ⟨g,cap,p,c,pv,cv,rfl,c1,c2,by omega,(Array.getElem?_eq_some_iff.1 hg).1,hcell 0 (by omega),hcell 1 (by omega),hcell 2 (by omega),hcell 3 (by omega),hcell 4 (by omega),fun o => Blk.frozen hg o,?_,?_⟩
  ·exact InN.weak m1 (fun k _ hk => ⟨hk.1,fun e => hk.2 (by rw [← e];rfl)⟩)
  ·exact InN.weak m3 (fun k _ hk => ⟨hk.1,fun e => hk.2 (by rw [← e];rfl)⟩)
theorem SolV.set {w : World} {N : Nat → Prop} {b : Nat} {n : Int} {ts : List Tm} {g cap : Nat} (h : SolV w N b n ts (.slice (some ⟨g,0,none⟩) ts.length cap)) {i : Nat} (hi : i < ts.length) (x : Int) :
  SolV (w.setCell ⟨g,i * 5 + 4,none⟩ (.int .i64 x)) N b n (setNext ts i x) (.slice (some ⟨g,0,none⟩) ts.length cap):=by
 obtain ⟨hb,xs,h1,hq⟩:=h
 rcases h1.2 with ⟨_,h0⟩ | ⟨g',cap',cur,he,hB,hg,c1,c2,c3,c4⟩
 ·omega
 ·simp only [Value.slice.injEq,Option.some.injEq,Addr.mk.injEq,and_true,true_and] at he
  obtain ⟨rfl,rfl⟩:=he
  have hgb : b ≠ g:=by omega
  refine ⟨hb.other hgb _,xs.set (i * 5 + 4) (.int .i64 x),⟨?_,.inr ⟨g,cap,cur.setIfInBounds (i * 5 + 4) (.int .i64 x),by rw [Un.setNext_len],hB,Blk.set hg _ _,by rw [Un.setNext_len];exact c1,c2,by simpa using c3,?_⟩⟩,?_⟩
  ·rw [List.length_set,h1.1,Un.setNext_len]
  ·rw [Un.setNext_len]
   rw [Array.toList_setIfInBounds,List.take_set,c4]
  ·exact (inn_setNext x hq hi).mono (fun k hk hl => ⟨hk,by simpa [World.setCell] using hl,Below.heap_setCell _ _ _ _ (fun e => hk.2 (by rw [e];rfl))⟩)
theorem SolFr.set {w : World} {b g o n cap : Nat} (x : Value) : SolFr b (.slice (some ⟨g,0,none⟩) n cap) (.slice (some ⟨g,0,none⟩) n cap) w (w.setCell ⟨g,o,none⟩ x):=
 ⟨by simp [World.setCell],rfl,rfl,rfl,fun k _ _ ho => Below.heap_setCell _ _ _ _ (fun e => ho (by rw [e];rfl)),fun _ h => .inl h⟩
set_option maxRecDepth 100000 in
set_option maxHeartbeats 3200000 in
theorem speaker_any (b : Nat) (n : Int) (N : Nat → Prop) (f : Nat) (ts ts' : List Tm) (i r : Int) (tv : Value) (w : World) (hS : SolV w N b n ts tv) (hr : speaker f ts i = some (ts',r)) :
  Calls Try.prog 88 #[.pointer (some ⟨b,0,none⟩),.int .i64 i] w fun e w' => e = .returned (.int .i64 r) ∧ SolV w' N b n ts' tv ∧ SolFr b tv tv w w':=by
 have HS:=hid hS
 have HR:=hid hr
 clear hS hr
 go_enter Try.func88,Try.ntmps88
 go_wp2_with fail
 go_loopg [1] f (fun gg x wr => ∃ (j : Int) (ts1 : List Tm),x = .int .i64 j ∧ Hid (speaker gg ts1 j = some (ts',r)) ∧ Hid (SolV wr N b n ts1 tv) ∧ Hid (SolFr b tv tv w wr))
 case atStart => exact ⟨i,ts,rfl,HR,HS,hid (SolFr.refl _ _ _)⟩
 case round =>
  obtain ⟨j,ts1,rfl,HQ,HS1,HFR⟩:=hrel
  obtain ⟨a,f1,h1,hg,hcase⟩ : ∃ a f1,tm? ts1 j = some a ∧ gk = f1 + 1 ∧ ((a.next = j ∧ ts' = ts1 ∧ r = j) ∨ (a.next ≠ j ∧ ∃ c,tm? ts1 a.next = some c ∧ speaker f1 (setNext ts1 j.toNat c.next) c.next = some (ts',r))):=by
   have h0:=HQ.out
   cases gk with
   | zero => simp [speaker] at h0
   | succ f1 =>
    rw [speaker] at h0
    cases h1 : tm? ts1 j with
    | none => simp [h1] at h0
    | some a =>
     rw [h1] at h0
     simp only at h0
     by_cases e : a.next = j
     ·rw [if_pos e] at h0
      simp only [Option.some.injEq,Prod.mk.injEq] at h0
      exact ⟨a,f1,rfl,rfl,.inl ⟨e,h0.1.symm,h0.2.symm⟩⟩
     ·rw [if_neg e] at h0
      cases h2 : tm? ts1 a.next with
      | none => simp [h2] at h0
      | some c =>
       rw [h2] at h0
       exact ⟨a,f1,rfl,rfl,.inr ⟨e,c,h2,h0⟩⟩
  obtain ⟨k,rfl,hk,hka⟩:=tm_some h1
  obtain ⟨g,cap,p,c,pv,cv,rfl,q1,q2,q3,q4,e0,e1,e2,e3,e4,q5,q6,q7⟩:=HS1.out.el hka
  unfold maxLen at q2
  have s1 : wr.cell? ⟨b,1,none⟩ = some (.slice (some ⟨g,0,none⟩) ts1.length cap):=HS1.out.blk.cell 1
  have sl : b < wr.heap.size:=HS1.out.blk.lt
  have hd : decide (k < ts1.length) = true:=by simpa using hk
  have hd2 : decide ((k : Int) < (ts1.length : Int)) = true:=by simp;omega
  have hg2:=hg
  subst hg2
  rcases hcase with ⟨hn,rfl,rfl⟩ | ⟨hn,c2,h2,hsp⟩
  ·rw [hn] at e4
   have hne : ((k : Int) != (k : Int)) = false:=by simp
   clear h1 hka e0 e1 e2 e3 q5 q6 q7 hn hg
   go_wp2_with fail
   go_ret
   exact ⟨rfl,HS1.out,HFR.out⟩
  ·obtain ⟨k2,hk2,hk2l,hk2a⟩:=tm_some h2
   obtain ⟨g',cap',p',c',pv',cv',heq,_,_,_,_,_,_,_,_,e4',_,_,_⟩:=HS1.out.el hk2a
   simp only [Value.slice.injEq,Option.some.injEq,Addr.mk.injEq,and_true,true_and] at heq
   obtain ⟨rfl,rfl⟩:=heq
   rw [hk2] at e4 hn
   have hne : ((k2 : Int) != (k : Int)) = true:=by simp;omega
   have hd3 : decide (k2 < ts1.length) = true:=by simpa using hk2l
   have hd4 : decide ((k2 : Int) < (ts1.length : Int)) = true:=by simp;omega
   have HSP:=hid hsp
   have HK:=hid hk
   have f4 : wr.frozen? ⟨g,k * 5 + 4,none⟩ = false:=q5 _
   clear h1 h2 hka hk2a e0 e1 e2 e3 q5 q6 q7 hn hg hsp hk2
   go_wp2_with fail
   go_still_tail 22,(by kernel_rfl)
   change wpList _ _ _ _ _ wr.drew
   have HS2:=hid (HS1.out.keep0 ((Fr.refl [] wr).drew))
   have HF2 : Hid (SolFr b (.slice (some ⟨g,0,none⟩) ts1.length cap) (.slice (some ⟨g,0,none⟩) ts1.length cap) w wr.drew):=hid (HFR.out.trans (SolFr.of_fr ((Fr.refl [] wr).drew)))
   clear s1 sl f4 e4 e4' HS1 HFR q4
   generalize wr.drew = w2 at HS2 HF2
   have s1 : w2.cell? ⟨b,1,none⟩ = some (.slice (some ⟨g,0,none⟩) ts1.length cap):=HS2.out.blk.cell 1
   have sl : b < w2.heap.size:=HS2.out.blk.lt
   obtain ⟨g',cap',p',c',pv',cv',heq,_,_,_,q4,_,_,_,_,e4,q5,_,_⟩:=HS2.out.el (List.getElem?_eq_getElem HK.out)
   simp only [Value.slice.injEq,Option.some.injEq,Addr.mk.injEq,and_true,true_and] at heq
   obtain ⟨rfl,rfl⟩:=heq
   have f4 : w2.frozen? ⟨g,k * 5 + 4,none⟩ = false:=q5 _
   have hbg : b ≠ g:=by omega
   clear q5
   go_wp2_with fail
   go_roundg f1
   case measure => omega
   case rel => exact ⟨c2.next,setNext ts1 k c2.next,rfl,HSP,hid (HS2.out.set HK.out _),hid (HF2.out.trans (SolFr.set _))⟩
open Go.RowKit Go.Lib
open Un (kd nm ar size sizes depth depths)
def qPair (x : Int × Int) : Q:=.int x.1 (.int x.2 .nil)
theorem ln_qPair (x : Int × Int) : (qPair x).ln = 2:=rfl
def TmV (w : World) (N : Nat → Prop) (x : Tm) (cs : List Value) : Prop:=InN w N (qTm x) cs
theorem TmV.shape {w : World} {N : Nat → Prop} {x : Tm} {cs : List Value} (h : TmV w N x cs) : ∃ p c pv cv,cs = [.int .i64 (kd x.t),.int .i64 (nm x.t),.slice p (ar x.t).length c,.slice pv x.args.length cv,.int .i64 x.next] ∧ TyV w N x.t [.int .i64 (kd x.t),.int .i64 (nm x.t),.slice p (ar x.t).length c] ∧ IntsV w N x.args (.slice pv x.args.length cv):=by
 unfold TmV qTm at h
 obtain ⟨d1,d2,rfl,m1,m2⟩:=h.split
 obtain ⟨p,c,rfl,_⟩:=TyV.shape m1
 obtain ⟨pv,cv,d3,rfl,m3,m4⟩:=inn_sl m2
 obtain ⟨d4,rfl,m5⟩:=inn_int m4
 obtain rfl:=inn_nil m5
 exact ⟨p,c,pv,cv,rfl,m1,m3⟩
theorem TmV.mk {w : World} {N : Nat → Prop} {x : Tm} {a b c v : Value} (h : TyV w N x.t [a,b,c]) (h' : IntsV w N x.args v) : TmV w N x [a,b,c,v,.int .i64 x.next]:=
 InN.app (cs:=[a,b,c]) (y:=.sl 3 1 x.args.length (rowsQ qInt x.args) (.int x.next .nil)) h (InN.mk_sl h' (InN.mk_int (InN.mk_nil _ _)))
theorem info_pair : (Try.prog.info? 110).map (fun i => (i.zero,i.size,i.bytes)) = some (some (.agg #[.int .i64 0,.int .i64 0]),2,16):=by kernel_rfl
namespace Un
def headOk (a b : Tm) : Bool:=(kd a.t == kd b.t && nm a.t == nm b.t) && decide (a.args.length = b.args.length)
end Un
theorem zip_take {α β : Type} {l : List α} {m : List β} {i : Nat} (h1 : i < l.length) (h2 : i < m.length) : (l.zip m).take (i + 1) = (l.zip m).take i ++ [(l[i],m[i])]:=by
 rw [List.take_succ_eq_append_getElem (by simp;omega),List.getElem_zip]
set_option maxRecDepth 100000 in
set_option maxHeartbeats 3200000 in
theorem args_bad (b : Nat) (x y : Tm) (N N' : Nat → Prop) (cs ds : List Value) (w : World) (h : TmV w N x cs) (h' : TmV w N' y ds) (hno : Un.headOk x y = false) :
  Calls Try.prog 89 #[.pointer (some ⟨b,0,none⟩),.agg cs.toArray,.agg ds.toArray] w fun e w' => e = failE 8 ∧ Fr [] w w':=by
 obtain ⟨p,c,pv,cv,rfl,hx,hxa⟩:=h.shape
 obtain ⟨p',c',pv',cv',rfl,hy,hya⟩:=h'.shape
 have hl1:=hxa.len
 have hl2:=hya.len
 unfold maxLen at hl1 hl2
 obtain ⟨w1,hw1⟩ : ∃ w1,w1 = (w.alloc (.cells #[.int .i64 (kd x.t),.int .i64 (nm x.t),.slice p (ar x.t).length c,.slice pv x.args.length cv,.int .i64 x.next] 109)).alloc (.cells #[.int .i64 (kd y.t),.int .i64 (nm y.t),.slice p' (ar y.t).length c',.slice pv' y.args.length cv',.int .i64 y.next] 109):=⟨_,rfl⟩
 have HF0 : Hid (Fr [] w w1):=hid (by rw [hw1];exact ((Fr.refl _ _).alloc _).alloc _)
 have HA0 : Hid (Blk w1 w.heap.size 109 #[.int .i64 (kd x.t),.int .i64 (nm x.t),.slice p (ar x.t).length c,.slice pv x.args.length cv,.int .i64 x.next]):=hid (by rw [hw1];exact (Blk.new _ _ _).alloc _)
 have HB0 : Hid (Blk w1 (w.heap.size + 1) 109 #[.int .i64 (kd y.t),.int .i64 (nm y.t),.slice p' (ar y.t).length c',.slice pv' y.args.length cv',.int .i64 y.next]):=hid (by rw [hw1];exact Blk.new_at (by simp))
 have HH:=hid (samehead_any x.t y.t _ _ w1 N N' (hx.keep0 HF0.out) (hy.keep0 HF0.out))
 obtain ⟨S,hS⟩ : ∃ S,S = (kd x.t == kd y.t && nm x.t == nm y.t):=⟨_,rfl⟩
 rw [← hS] at HH
 have hno2 : S = true → ¬ x.args.length = y.args.length:=fun e h => by
  unfold Un.headOk at hno
  rw [← hS,e] at hno
  simp [h] at hno
 have HNO:=hid hno2
 clear h h' hx hxa hy hya hno hno2 hS
 go_enter Try.func89,Try.ntmps89
 go_wp2_with fail
 rw [← hw1]
 clear hw1
 refine HH.out.mono ?_
 rintro e w2 ⟨rfl,hf2⟩
 have HF2:=hid (HF0.out.trans hf2)
 have HA2:=hid (HA0.out.keep hf2 (by simp))
 have HB2:=hid (HB0.out.keep hf2 (by simp))
 clear hf2
 cases S with
 | false =>
  go_wp2_with fail
  refine (refuse_yes 8 _).mono ?_
  rintro e w3 ⟨rfl,rfl⟩
  unfold failE
  go_wp2_with fail
  exact ⟨rfl,rfl,HF2.out⟩
 | true =>
  have a3 : w2.cell? ⟨w.heap.size,3,none⟩ = some (.slice pv x.args.length cv):=HA2.out.cell 3
  have b3 : w2.cell? ⟨w.heap.size + 1,3,none⟩ = some (.slice pv' y.args.length cv'):=HB2.out.cell 3
  have al : w.heap.size < w2.heap.size:=HA2.out.lt
  have bl : w.heap.size + 1 < w2.heap.size:=HB2.out.lt
  have hne : ((x.args.length : Int) != (y.args.length : Int)) = true:=by have:=HNO.out rfl;simp;omega
  go_wp2_with fail
  refine (refuse_yes 8 _).mono ?_
  rintro e w3 ⟨rfl,rfl⟩
  unfold failE
  go_wp2_with fail
  exact ⟨rfl,rfl,HF2.out⟩
def PairsP (l : List (Int × Int)) (w : World) (e : Ending) (w' : World) : Prop:=∃ v,e = .returned v ∧ OwnL w' (fun _ => False) w.heap.size 110 2 l.length (rowsQ qPair l) v ∧ Fr [] w w' ∧ (l = [] → v = .slice none 0 0)
set_option maxRecDepth 100000 in
set_option maxHeartbeats 3200000 in
theorem args_ok (b : Nat) (x y : Tm) (N N' : Nat → Prop) (cs ds : List Value) (w : World) (h : TmV w N x cs) (h' : TmV w N' y ds) (hok : Un.headOk x y = true) (hsz : x.args.length ≤ 100000) :
  Calls Try.prog 89 #[.pointer (some ⟨b,0,none⟩),.agg cs.toArray,.agg ds.toArray] w (PairsP (x.args.zip y.args) w):=by
 obtain ⟨p,c,pv,cv,rfl,hx,hxa⟩:=h.shape
 obtain ⟨p',c',pv',cv',rfl,hy,hya⟩:=h'.shape
 obtain ⟨w1,hw1⟩ : ∃ w1,w1 = (w.alloc (.cells #[.int .i64 (kd x.t),.int .i64 (nm x.t),.slice p (ar x.t).length c,.slice pv x.args.length cv,.int .i64 x.next] 109)).alloc (.cells #[.int .i64 (kd y.t),.int .i64 (nm y.t),.slice p' (ar y.t).length c',.slice pv' y.args.length cv',.int .i64 y.next] 109):=⟨_,rfl⟩
 have HF0 : Hid (Fr [] w w1):=hid (by rw [hw1];exact ((Fr.refl _ _).alloc _).alloc _)
 have HA0 : Hid (Blk w1 w.heap.size 109 #[.int .i64 (kd x.t),.int .i64 (nm x.t),.slice p (ar x.t).length c,.slice pv x.args.length cv,.int .i64 x.next]):=hid (by rw [hw1];exact (Blk.new _ _ _).alloc _)
 have HB0 : Hid (Blk w1 (w.heap.size + 1) 109 #[.int .i64 (kd y.t),.int .i64 (nm y.t),.slice p' (ar y.t).length c',.slice pv' y.args.length cv',.int .i64 y.next]):=hid (by rw [hw1];exact Blk.new_at (by simp))
 have HH:=hid (samehead_any x.t y.t _ _ w1 N N' (hx.keep0 HF0.out) (hy.keep0 HF0.out))
 have hok2 : (kd x.t == kd y.t && nm x.t == nm y.t) = true ∧ x.args.length = y.args.length:=by
  unfold Un.headOk at hok
  rw [Bool.and_eq_true,decide_eq_true_eq] at hok
  exact hok
 rw [hok2.1] at HH
 obtain ⟨l,hl⟩ : ∃ l,l = x.args:=⟨_,rfl⟩
 obtain ⟨m,hm⟩ : ∃ m,m = y.args:=⟨_,rfl⟩
 rw [← hl] at hxa hok2 HA0 hsz hw1 ⊢
 rw [← hm] at hya hok2 HB0 hw1 ⊢
 have hlm : m.length = l.length:=hok2.2.symm
 have HLM:=hid hlm
 have HXA:=hid hxa
 have HYA:=hid hya
 obtain ⟨kx,hkx⟩ : ∃ kx,kx = l.length:=⟨_,rfl⟩
 rw [hlm,← hkx] at HB0 HYA hw1
 rw [← hkx] at HA0 HXA hsz
 have HKX:=hid hkx
 have hzl : (l.zip m).length = kx:=by simp [hlm,hkx]
 have HZL:=hid hzl
 rw [hlm,← hkx]
 have hne : ((kx : Int) != (kx : Int)) = false:=by simp
 clear h h' hx hxa hy hya hok hok2 hlm hkx hzl hl hm
 go_enter Try.func89,Try.ntmps89
 go_wp2_with fail
 rw [← hw1]
 clear hw1
 refine HH.out.mono ?_
 rintro e w2 ⟨rfl,hf2⟩
 have HF2:=hid (HF0.out.trans hf2)
 have HA2:=hid (HA0.out.keep hf2 (by simp))
 have HB2:=hid (HB0.out.keep hf2 (by simp))
 clear hf2
 have a3 : w2.cell? ⟨w.heap.size,3,none⟩ = some (.slice pv kx cv):=HA2.out.cell 3
 have b3 : w2.cell? ⟨w.heap.size + 1,3,none⟩ = some (.slice pv' kx cv'):=HB2.out.cell 3
 have al : w.heap.size < w2.heap.size:=HA2.out.lt
 have bl : w.heap.size + 1 < w2.heap.size:=HB2.out.lt
 go_wp2_with fail
 refine (refuse_no 8 _).mono ?_
 rintro e w2 ⟨rfl,rfl⟩
 go_wp2_with fail
 clear a3 b3 al bl
 obtain ⟨i0,hi0,hz0,hz1,hz2⟩:=info_parts info_pair
 have HI0:=hid hi0
 clear hi0
 go_loopw [7,28] (fun v z wr => ∃ i : Nat,z = .int .i64 i ∧ i ≤ kx ∧ Hid (Fr [] w wr) ∧ Hid (Blk wr w.heap.size 109 #[.int .i64 (kd x.t),.int .i64 (nm x.t),.slice p (ar x.t).length c,.slice pv kx cv,.int .i64 x.next]) ∧ Hid (Blk wr (w.heap.size + 1) 109 #[.int .i64 (kd y.t),.int .i64 (nm y.t),.slice p' (ar y.t).length c',.slice pv' kx cv',.int .i64 y.next]) ∧ Hid (OwnL wr (fun _ => False) w2.heap.size 110 2 i (rowsQ qPair ((l.zip m).take i)) v) ∧ Hid (w2.heap.size ≤ wr.heap.size) ∧ Hid (i = 0 → v = .slice none 0 0)) (fun _ z _ => kx - (RowKit.intOf z).toNat)
 case atStart => exact ⟨0,rfl,Nat.zero_le _,HF2,HA2,HB2,hid (by rw [List.take_zero,rowsQ];exact OwnL.nil _ _ _ _ _),hid (Nat.le_refl _),hid (fun _ => rfl)⟩
 case round =>
  obtain ⟨i,rfl,hi,HFR,HA3,HB3,HO,HZ,HNV⟩:=hrel
  obtain ⟨po,co,rfl⟩:=HO.out.shape
  by_cases hlt : i < kx
  ·have hd2 : decide ((i : Int) < (kx : Int)) = true:=by simp;omega
   have hd3 : decide (i < kx) = true:=by simpa using hlt
   have hi1 : i < l.length:=by have:=HKX.out;omega
   have hi2 : i < m.length:=by have:=HLM.out;omega
   obtain ⟨bx,ox,rfl,hax⟩ : ∃ b o,pv = some ⟨b,o,none⟩ ∧ IntsAt w N l b o:=by
    have h0:=HXA.out
    rw [HKX.out] at h0
    rcases h0.cases with ⟨rfl,_⟩ | ⟨_,b,o,cap,heq,_,_,hat⟩
    ·simp at hi1
    ·simp only [Value.slice.injEq] at heq
     exact ⟨b,o,heq.1,hat⟩
   obtain ⟨by',oy,rfl,hay⟩ : ∃ b o,pv' = some ⟨b,o,none⟩ ∧ IntsAt w N' m b o:=by
    have h0:=HYA.out
    rw [HKX.out,← HLM.out] at h0
    rcases h0.cases with ⟨rfl,_⟩ | ⟨_,b,o,cap,heq,_,_,hat⟩
    ·simp at hi2
    ·simp only [Value.slice.injEq] at heq
     exact ⟨b,o,heq.1,hat⟩
   obtain ⟨hb1,g1⟩:=hax.el HFR.out (by simp) (List.getElem?_eq_getElem hi1)
   obtain ⟨hb2,g2⟩:=hay.el HFR.out (by simp) (List.getElem?_eq_getElem hi2)
   have HZT:=hid (zip_take hi1 hi2)
   obtain ⟨u,hu⟩ : ∃ u,u = l[i]:=⟨_,rfl⟩
   obtain ⟨z,hz⟩ : ∃ z,z = m[i]:=⟨_,rfl⟩
   rw [← hu] at g1 HZT
   rw [← hz] at g2 HZT
   have a3 : wr.cell? ⟨w.heap.size,3,none⟩ = some (.slice (some ⟨bx,ox,none⟩) kx cv):=HA3.out.cell 3
   have b3 : wr.cell? ⟨w.heap.size + 1,3,none⟩ = some (.slice (some ⟨by',oy,none⟩) kx cv'):=HB3.out.cell 3
   have al : w.heap.size < wr.heap.size:=HA3.out.lt
   have bl : w.heap.size + 1 < wr.heap.size:=HB3.out.lt
   obtain ⟨r1,r2,r3,r4⟩:=ownl_ready2 (news:=[.int .i64 u,.int .i64 z]) (qb:=qPair (u,z)) (w5:=wr.drew) (HO.out.keep (Fr.refl [] wr).drew (by simp)) (by have:=HZ.out;exact this) (InN.mk_int (InN.mk_int (InN.mk_nil _ _))) 110
   have R1:=hid r1
   have R2:=hid r2
   have R3:=hid r3
   have hsz2 : w.heap.size + 1 < w2.heap.size:=HB2.out.lt
   clear r1 r2 r3 hu hz hi1 hi2 hax hay
   go_wp2_with fail
   go_region_law (refine step_append_ownl _ (by rfl) _ _ 111 (by rfl) (fun _ => False) w2.heap.size 110 i0 _ 2 16 Try.underlying111 HI0.out hz0 hz1 hz2 rfl (by decide) (.slice po i co) i 1 (rowsQ qPair ((l.zip m).take i)) (qPair (u,z)) (by rfl) R1.out ⟨wr.heap.size,0,none⟩ 1 [.int .i64 u,.int .i64 z] (by rfl) rfl R2.out R3.out (by omega) (by decide) r4 ?_;intro p4 c4 w4 hL4 hg4 hv4;have HL4:=hid hL4;have HG4:=hid hg4;clear hL4 hg4 hv4)
   all_goals
    have hown : ∀ k,(Value.slice po i co).ownBlock = some k → w2.heap.size ≤ k:=fun k hk => (R1.out.own k hk).1
    have HF4 : Hid (Fr [] w w4):=hid (Fr.grown ((HFR.out.alloc (.cells #[.int .i64 u,.int .i64 z] 110)).drew) HG4.out (fun k hk => .inr (by have:=hown k hk;omega)))
    have hkeep : ∀ k,k < w2.heap.size → w4.heap[k]? = wr.heap[k]?:=fun k hk => by
     have h1:=HZ.out
     rw [HG4.out.block k (by show k < (wr.alloc _).heap.size;simp;omega) (fun e => by have:=hown k e.symm;omega)]
     exact Below.heap_alloc wr _ k (by omega)
    have HA4 : Hid (Blk w4 w.heap.size 109 #[.int .i64 (kd x.t),.int .i64 (nm x.t),.slice p (ar x.t).length c,.slice (some ⟨bx,ox,none⟩) kx cv,.int .i64 x.next]):=hid ((hkeep _ (by omega)).trans HA3.out)
    have HB4 : Hid (Blk w4 (w.heap.size + 1) 109 #[.int .i64 (kd y.t),.int .i64 (nm y.t),.slice p' (ar y.t).length c',.slice (some ⟨by',oy,none⟩) kx cv',.int .i64 y.next]):=hid ((hkeep _ (by omega)).trans HB3.out)
    have HZ4 : Hid (w2.heap.size ≤ w4.heap.size):=hid (by have h1:=HG4.out.size;have h2:=HZ.out;have h3 : (wr.alloc (Obj.cells #[Value.int .i64 u,.int .i64 z] 110)).heap.size = wr.heap.size + 1:=(by simp);exact Nat.le_trans (by omega) (Nat.le_trans (Nat.le_of_eq h3.symm) h1))
    clear hown hkeep a3 b3 al bl g1 g2 r4
    go_wp2_with fail
    go_roundw
    case rel => exact ⟨i + 1,by go_num,by omega,HF4,HA4,HB4,hid (by rw [HZT.out,rowsQ_snoc];exact HL4.out),HZ4,hid (fun h => by omega)⟩
    case measure => simp [RowKit.intOf];omega
  ·have hd2 : decide ((i : Int) < (kx : Int)) = false:=by simp;omega
   have hd3 : decide (i < kx) = false:=by simpa using hlt
   obtain rfl : i = kx:=by omega
   have hle : w.heap.size ≤ w2.heap.size:=HF2.out.size
   go_wp2_with fail
   go_ret
   refine ⟨_,rfl,?_,HFR.out,fun h => HNV.out (by have h1:=HZL.out;rw [h] at h1;simpa using h1.symm)⟩
   have h1:=HO.out
   have h2 : (l.zip m).take i = l.zip m:=List.take_of_length_le (by rw [HZL.out];exact Nat.le_refl _)
   rw [h2] at h1
   rw [HZL.out]
   exact h1.weak hle (fun k _ h => h)
open Go.RowKit Go.Lib
open Un (kd nm ar size sizes unsolved)
namespace Un
def zero : Ty:=.mk 0 0 []
def var (i : Int) : Ty:=.mk 9 i []
def fresh : Nat → List Tm
 | 0 => []
 | n + 1 => fresh n ++ [⟨var n,[],n⟩]
theorem fresh_len : ∀ n,(fresh n).length = n
 | 0 => rfl
 | n + 1 => by rw [fresh];simp [fresh_len n]
end Un
def NewSolP (n : Nat) (w : World) (e : Ending) (w' : World) : Prop:=e = .returned (.pointer (some ⟨w.heap.size,0,none⟩)) ∧ Fr [] w w' ∧ ∃ tv,SolV w' (fun _ => True) w.heap.size n (Un.fresh n) tv
set_option maxRecDepth 100000 in
set_option maxHeartbeats 3200000 in
theorem newsolver_any (N : Nat → Prop) (s : List Ty) (v : Value) (w : World) (h : TysV w N s v) (hs : ∀ t ∈ s,t = Un.zero) (hl : s.length ≤ 1000) : Calls Try.prog 66 #[v] w (NewSolP s.length w):=by
 obtain ⟨ps,cs,rfl⟩:=h.shape
 have HV:=hid h
 have HZ:=hid hs
 obtain ⟨n,hn⟩ : ∃ n,n = s.length:=⟨_,rfl⟩
 have HN:=hid hn
 rw [← hn] at hl HV ⊢
 obtain ⟨w1,hw1⟩ : ∃ w1,w1 = w.alloc (.cells #[.int .i64 n,.slice none 0 0] 107):=⟨_,rfl⟩
 have HF0 : Hid (Fr [] w w1):=hid (by rw [hw1];exact (Fr.refl _ _).alloc _)
 have HB0 : Hid (Blk w1 w.heap.size 107 #[.int .i64 n,.slice none 0 0]):=hid (by rw [hw1];exact Blk.new _ _ _)
 obtain ⟨j0,hj0,jz0,jz1,jz2⟩:=info_parts info_term
 have HJ0:=hid hj0
 clear h hs hn hj0
 go_enter Try.func66,Try.ntmps66
 go_wp2_with fail
 rw [← hw1]
 clear hw1
 go_loopw [13] (fun x wr => ∃ (i : Nat) (tv : Value),x = .int .i64 i ∧ i ≤ n ∧ Hid (Fr [] w wr) ∧ Hid (SolV wr (fun _ => True) w.heap.size n (Un.fresh i) tv)) (fun x _ => n - (RowKit.intOf x).toNat)
 case atStart => exact ⟨0,.slice none 0 0,rfl,Nat.zero_le _,HF0,hid ⟨HB0.out,OwnL.nil _ _ _ _ _⟩⟩
 case round =>
  obtain ⟨i,tv,rfl,hi,HFR,HS⟩:=hrel
  obtain ⟨pt,ct,rfl⟩:=HS.out.shape
  rw [Un.fresh_len] at HS
  by_cases hlt : i < n
  ·have hd2 : decide ((i : Int) < (n : Int)) = true:=by simp;omega
   have hd3 : decide (i < n) = true:=by simpa using hlt
   have s1 : wr.cell? ⟨w.heap.size,1,none⟩ = some (.slice pt i ct):=HS.out.blk.cell 1
   have sl : w.heap.size < wr.heap.size:=HS.out.blk.lt
   have s1d : wr.drew.cell? ⟨w.heap.size,1,none⟩ = some (.slice pt i ct):=s1
   go_wp2_with fail
   go_region_law (first | (refine step_append_ownl _ (by rfl) _ _ 105 (by rfl) (fun k => k ≠ w.heap.size ∧ True) (w.heap.size + 1) 109 j0 _ 5 72 Try.underlying105 HJ0.out jz0 jz1 jz2 rfl (by decide) (.slice pt i ct) i 1 (rowsQ qTm (Un.fresh i)) (qTm ⟨Un.var i,[],i⟩) (by rfl) G1.out ⟨w2.heap.size,0,none⟩ 1 [.int .i64 9,.int .i64 i,.slice none 0 0,.slice none 0 0,.int .i64 i] (by rfl) rfl G2.out G3.out (by omega) (by decide) g4 ?_;intro p' c' w4 hL4 hg4 hv4;have hD4:=hid ((HS2.out.blk.alloc (.cells #[.int .i64 9,.int .i64 i,.slice none 0 0,.slice none 0 0,.int .i64 i] 109)).keep (X:=(Value.slice pt i ct).ownBlock.toList) ⟨hg4.os,hg4.tape,hg4.output,hg4.size,fun k hk hx => hg4.block k hk (fun e => hx (by simp [← e]))⟩ (fun hx => by have h1:=(HS2.out.l.own w.heap.size (by simpa using hx)).1;omega));have hk4 : w4.cell? ⟨w.heap.size,1,none⟩ = some (.slice pt i ct):=hD4.out.cell 1;have hf4 : w4.frozen? ⟨w.heap.size,1,none⟩ = false:=hD4.out.frozen 1;have HL4:=hid hL4;have HG4:=hid hg4;clear hL4 hg4 hv4) | (go_simp;go_at_call 87;refine (variable_any _ _).mono ?_;rintro e w2 ⟨rfl,hf2⟩;have HF2 : Hid (Fr [] wr w2):=hid ((Fr.refl [] wr).drew.trans hf2);have HS2:=hid (HS.out.keep0 HF2.out);have s2 : w2.cell? ⟨w.heap.size,1,none⟩ = some (.slice pt i ct):=HS2.out.blk.cell 1;have sl2 : w.heap.size < w2.heap.size:=HS2.out.blk.lt;obtain ⟨g1,g2,g3,g4⟩:=ownl_ready2 (news:=[.int .i64 9,.int .i64 i,.slice none 0 0,.slice none 0 0,.int .i64 i]) (qb:=qTm ⟨Un.var i,[],i⟩) (by have:=HS2.out.l;rw [Un.fresh_len] at this;exact this) (by omega) (TmV.mk (x:=⟨Un.var i,[],i⟩) (TyV.mk (TysV.nil none 0)) (InN.slNil none 0)) 109;have G1:=hid g1;have G2:=hid g2;have G3:=hid g3;clear g1 g2 g3 hf2))
   all_goals
    have hSW : SolV (w4.setCell ⟨w.heap.size,1,none⟩ (.slice p' (i + 1) c')) (fun _ => True) w.heap.size n (Un.fresh (i + 1)) (.slice p' (i + 1) c'):=
     ⟨hD4.out.set 1 _,by rw [Un.fresh_len,Un.fresh,rowsQ_snoc];exact HL4.out.keep (X:=[w.heap.size]) ((Fr.refl [w.heap.size] _).setCell (.inl (by simp)) _) (by simp)⟩
    have hFW : Fr [] w (w4.setCell ⟨w.heap.size,1,none⟩ (.slice p' (i + 1) c')):=
     ((((HFR.out.trans HF2.out).alloc (.cells #[.int .i64 9,.int .i64 i,.slice none 0 0,.slice none 0 0,.int .i64 i] 109)).grown HG4.out (fun k hk => .inr (by have:=(G1.out.own k hk).1;omega)))).setCell (.inr (Nat.le_refl _)) _
    have HSW:=hid hSW
    have HFW:=hid hFW
    clear hSW hFW hk4 hf4 s1 sl s1d s2 sl2 g4
    go_wp2_with fail
    go_roundw
    case rel => exact ⟨i + 1,_,by go_num,by omega,HFW,HSW⟩
    case measure => simp [RowKit.intOf];omega
  ·have hd2 : decide ((i : Int) < (n : Int)) = false:=by simp;omega
   have hd3 : decide (i < n) = false:=by simpa using hlt
   obtain rfl : i = n:=by omega
   go_wp2_with fail
   obtain ⟨wo,hwo⟩ : ∃ wo : World,wo = wr:=⟨_,rfl⟩
   subst hwo
   go_loopw [32] (fun x wr2 => ∃ j : Nat,x = .int .i64 j ∧ j ≤ i ∧ Hid (Fr [] wo wr2)) (fun x _ => i - (RowKit.intOf x).toNat)
   case atStart => exact ⟨0,rfl,Nat.zero_le _,hid (Fr.refl _ _)⟩
   case round =>
    obtain ⟨j,rfl,hj,HF3⟩:=hrel
    by_cases hlt2 : j < i
    ·have hd4 : decide ((j : Int) < (i : Int)) = true:=by simp;omega
     have hd5 : decide (j < i) = true:=by simpa using hlt2
     have hjs : j < s.length:=by have:=HN.out;omega
     obtain ⟨bb,o,rfl,hat⟩ : ∃ bb o,ps = some ⟨bb,o,none⟩ ∧ TysAt w N s bb o:=by
      have h0:=HV.out
      rw [HN.out] at h0
      rcases h0.cases with ⟨rfl,_⟩ | ⟨_,bb,o,cap,heq,_,_,hat⟩
      ·simp at hjs
      ·simp only [Value.slice.injEq] at heq
       exact ⟨bb,o,heq.1,hat⟩
     obtain ⟨p1,c1,k1,hb,g0,g1,g2⟩:=hat.el (HFR.out.trans HF3.out) (by simp) (List.getElem?_eq_getElem hjs)
     have hz:=HZ.out _ (List.getElem_mem hjs)
     rw [hz] at k1 g0 g1 g2
     have hu : unsolved Un.zero = true:=by decide
     have K1:=hid k1
     have HU:=hid hu
     simp only [Un.zero,kd,nm,ar,List.length_nil] at g0 g1 g2 K1
     clear k1 hz hat hu
     go_wp2_with fail
     have hf0 : Fr [] wr (wr.alloc (.cells #[.int .i64 0,.int .i64 0,.slice p1 0 c1] 24)):=(Fr.refl _ _).alloc _
     refine (isunsolved_any Un.zero _ _ N (K1.out.keep0 hf0)).mono ?_
     rw [HU.out]
     rintro e w5 ⟨rfl,hf5⟩
     have HF5:=hid (HF3.out.trans (hf0.trans hf5))
     clear hf0 hf5 g0 g1 g2
     go_wp2_with fail
     go_roundw
     case rel => exact ⟨j + 1,by go_num,by omega,HF5⟩
     case measure => simp [RowKit.intOf];omega
    ·have hd4 : decide ((j : Int) < (i : Int)) = false:=by simp;omega
     have hd5 : decide (j < i) = false:=by simpa using hlt2
     go_wp2_with fail
     go_ret
     refine ⟨rfl,HFR.out.trans HF3.out,.slice pt i ct,?_⟩
     have h1:=HS.out
     exact h1.keep0 HF3.out
end Go.Proofs.Ytcdlnhfgehhkcaa
