/- part of the proof -/
import Derived.Test.YtcdlnhfgehhkcaaQ08
import Derived.Laws.AppendOwnNone
set_option linter.unusedVariables false
set_option linter.unusedSimpArgs false
set_option linter.unusedSectionVars false
namespace Go.Proofs.Ytcdlnhfgehhkcaa
open Go.RowKit Go.Lib
open Un (kd nm ar size sizes tm? setNext headOk)
theorem root_any (b : Nat) (n : Int) (N : Nat → Prop) (ts : List Tm) (i : Int) (a : Tm) (tv : Value) (w : World) (hS : SolV w N b n ts tv) (h1 : tm? ts i = some a) (h2 : a.next = i) :
  Calls Try.prog 88 #[.pointer (some ⟨b,0,none⟩),.int .i64 i] w fun e w' => e = .returned (.int .i64 i) ∧ w = w':=by
 obtain ⟨k,rfl,hk,hka⟩:=tm_some h1
 obtain ⟨g,cap,p,c,pv,cv,rfl,q1,q2,q3,q4,e0,e1,e2,e3,e4,q5,q6,q7⟩:=hS.el hka
 unfold maxLen at q2
 rw [h2] at e4
 have s1 : w.cell? ⟨b,1,none⟩ = some (.slice (some ⟨g,0,none⟩) ts.length cap):=hS.blk.cell 1
 have sl : b < w.heap.size:=hS.blk.lt
 have hd : decide (k < ts.length) = true:=by simpa using hk
 have hd2 : decide ((k : Int) < (ts.length : Int)) = true:=by simp;omega
 have hne : ((k : Int) != (k : Int)) = false:=by simp
 clear h1 h2 hka e0 e1 e2 e3 q5 q6 q7 hS
 go_enter Try.func88,Try.ntmps88
 go_wp2_with fail
 go_loopw [1] (fun v wr => v = .int .i64 k ∧ wr = w) (fun v _ => 0)
 case atStart => exact ⟨rfl,rfl⟩
 case round =>
  obtain ⟨rfl,rfl⟩:=hrel
  go_wp2_with fail
  go_ret
  exact ⟨rfl,rfl⟩
namespace Un
def join : Nat → Int → List Tm → List (Int × Int) → Option (Option (List Tm))
 | 0,_,_,_ => none
 | f + 1,n,ts,ps => match ps.getLast? with
  | none => some (some ts)
  | some (x,y) => match tm? ts x,tm? ts y with
   | some a,some b =>
    if a.next = x ∧ b.next = y then
     if x = y then join f n ts ps.dropLast
     else if x < n then join f n (setNext ts x.toNat y) ps.dropLast
     else if y < n then join f n (setNext ts y.toNat x) ps.dropLast
     else if headOk a b then join f n (setNext ts x.toNat y) (ps.dropLast ++ a.args.zip b.args) else some none
    else none
   | _,_ => none
end Un
theorem join_step {f : Nat} {n : Int} {ts : List Tm} {qs : List (Int × Int)} {x y : Int} {r : Option (List Tm)} (h : Un.join (f + 1) n ts (qs ++ [(x,y)]) = some r) :
  ∃ a c,tm? ts x = some a ∧ tm? ts y = some c ∧ a.next = x ∧ c.next = y ∧ ((x = y ∧ Un.join f n ts qs = some r) ∨ (x ≠ y ∧ x < n ∧ Un.join f n (setNext ts x.toNat y) qs = some r) ∨ (x ≠ y ∧ ¬ x < n ∧ y < n ∧ Un.join f n (setNext ts y.toNat x) qs = some r) ∨
   (x ≠ y ∧ ¬ x < n ∧ ¬ y < n ∧ headOk a c = true ∧ Un.join f n (setNext ts x.toNat y) (qs ++ a.args.zip c.args) = some r) ∨ (x ≠ y ∧ ¬ x < n ∧ ¬ y < n ∧ headOk a c = false ∧ r = none)):=by
 rw [Un.join] at h
 simp only [List.getLast?_concat,List.dropLast_concat] at h
 cases h1 : tm? ts x with
 | none => simp [h1] at h
 | some a =>
  cases h2 : tm? ts y with
  | none => simp [h1,h2] at h
  | some c =>
   rw [h1,h2] at h
   simp only at h
   split at h
   ·rename_i hn
    refine ⟨a,c,rfl,rfl,hn.1,hn.2,?_⟩
    split at h
    ·rename_i e;exact .inl ⟨e,h⟩
    ·rename_i e
     split at h
     ·rename_i e2;exact .inr (.inl ⟨e,e2,h⟩)
     ·rename_i e2
      split at h
      ·rename_i e3;exact .inr (.inr (.inl ⟨e,e2,e3,h⟩))
      ·rename_i e3
       cases h4 : headOk a c with
       | true => rw [if_pos h4] at h;exact .inr (.inr (.inr (.inl ⟨e,e2,e3,rfl,h⟩)))
       | false =>
        rw [if_neg (by simp [h4])] at h
        simp only [Option.some.injEq] at h
        exact .inr (.inr (.inr (.inr ⟨e,e2,e3,rfl,h.symm⟩)))
   ·cases h
def SrcV (w : World) (N : Nat → Prop) (s m : Nat) (qn : Q) (v2 : Value) : Prop:=
 (m = 0 ∧ v2 = .slice none 0 0 ∧ qn = .nil) ∨ ∃ a c news,v2 = .slice (some a) m c ∧ news.length = m * s ∧ (∀ j u,news[j]? = some u → w.cell? (a.add j) = some u) ∧ InN w N qn news
theorem run_append_ownl_src {P : Program} (w : World) (N : Nat → Prop) (B t ty e : Nat) (i : TypeInfo) (z : Value) (size bytes : Nat) (ht : P.underlying t = some (.slice e)) (hi : P.info? e = some i) (hz : i.zero = some z)
  (hsize : i.size = size) (hby : i.bytes = bytes) (hzs : z.cells.size = size) (hsz : 0 < size)
  (v v2 : Value) (n m : Nat) (q qn : Q) (hL : OwnL w N B e size n q v) (hv2 : SrcV w (fun k => N k ∧ some k ≠ v.ownBlock) size m qn v2) (hn : n + m ≤ 1000000) (hbytes : bytes ≤ 1000) (hB : B ≤ w.heap.size) :
  ∃ v' w',(Builtin.append_ #[t,t] ty #[v,v2]).run P w = .ok v' w' ∧ OwnL w' N B e size (n + m) (q.app qn) v' ∧ w.grownBy w' v.ownBlock ∧ (∀ k,v'.ownBlock = some k → w.heap.size ≤ k ∨ v.ownBlock = some k):=by
 rcases hv2 with ⟨rfl,rfl,rfl⟩ | ⟨a,c,news,rfl,hl,hc,hq⟩
 ·obtain ⟨xs,hown,hxs⟩:=hL
  exact ⟨v,w,run_append_owned_none (P:=P) (w:=w) B t ty e i size ht hi v n xs hown,⟨xs,hown,by rw [Q.app_nil];exact hxs⟩,⟨rfl,rfl,rfl,Nat.le_refl _,fun _ _ _ => rfl⟩,fun k hk => .inr hk⟩
 ·exact run_append_ownl w N B t ty e i z size bytes ht hi hz hsize hby hzs hsz v n m q qn hL a c news hl hc hq hn hbytes hB
theorem step_append_ownl_src {P : Program} (w : World) {ops : Array Oper} {o : Oper} {a : Act} {K : Act → World → Prop} {QQ : Exit → Act → World → Prop} {E : Prop} (hgd : o.guard = none) (s x : Operand) (t : Nat)
  (hop : o.op = Op.call { callee:=Callee.builtin Builtin.append,args:=#[s,x],argTypes:=#[t,t] })
  (N : Nat → Prop) (B e : Nat) (i : TypeInfo) (z : Value) (size bytes : Nat) (h1 : P.underlying t = some (.slice e)) (h2 : P.info? e = some i) (h3 : i.zero = some z) (h4 : i.size = size) (h5 : i.bytes = bytes) (h6 : z.cells.size = size) (h7 : 0 < size)
  (v v2 : Value) (n m : Nat) (q qn : Q) (hs : a.eval s = v) (hx : a.eval x = v2) (hL : OwnL w N B e size n q v) (hv2 : SrcV w (fun k => N k ∧ some k ≠ v.ownBlock) size m qn v2) (b1 : n + m ≤ 1000000) (b2 : bytes ≤ 1000) (b3 : B ≤ w.heap.size)
  (hK : ∀ p c' w',OwnL w' N B e size (n + m) (q.app qn) (.slice p (n + m) c') → w.grownBy w' v.ownBlock → (∀ k,(Value.slice p (n + m) c').ownBlock = some k → w.heap.size ≤ k ∨ v.ownBlock = some k) → K (a.put o.dst (.slice p (n + m) c')) w') :
  if Region.wanted o (yielded ops a.tmps) = true then Oper.wp P o a w K QQ else E:=by
 have hw : Region.wanted o (yielded ops a.tmps) = true:=by simp [Region.wanted,hgd]
 rw [if_pos hw]
 obtain ⟨v',w',hr,r1,r2,r3⟩:=run_append_ownl_src (P:=P) w N B t o.type e i z size bytes h1 h2 h3 h4 h5 h6 h7 v v2 n m q qn hL hv2 b1 b2 b3
 obtain ⟨p,c',rfl⟩:=r1.shape
 unfold Oper.wp execOp
 simp only [hop,resolve,invoke,builtin,Sem.run_bind,Sem.run_pure,Result.andThen_ok,List.map_toArray,List.map_cons,List.map_nil,hs,hx,hr]
 exact hK p c' w' r1 r2 r3
theorem src_of_pairs {w : World} {N : Nat → Prop} {B : Nat} {l : List (Int × Int)} {v : Value} (h : OwnL w (fun _ => False) B 110 2 l.length (rowsQ qPair l) v) (hv : l = [] → v = .slice none 0 0) : SrcV w N 2 l.length (rowsQ qPair l) v:=by
 by_cases hl : l = []
 ·exact .inl ⟨by rw [hl];rfl,hv hl,by rw [hl];rfl⟩
 ·obtain ⟨xs,h1,hq⟩:=h
  rcases h1.2 with ⟨_,h0⟩ | ⟨g,cap,cur,rfl,hB,hg,c1,c2,c3,c4⟩
  ·exact absurd (List.eq_nil_of_length_eq_zero h0) hl
  ·refine .inr ⟨⟨g,0,none⟩,cap,xs,rfl,h1.1,fun j u hj => ?_,hq.weak (fun k _ hk => hk.1.elim)⟩
   have e : (⟨g,0,none⟩ : Addr).add j = ⟨g,j,none⟩:=by
    simp only [Addr.add,Nat.zero_add]
    split
    ·rename_i h;subst h;rfl
    ·rfl
   have hlt : j < l.length * 2:=by
    rw [← h1.1]
    exact (List.getElem?_eq_some_iff.1 hj).1
   rw [e,(show w.cell? ⟨g,j,none⟩ = cur[j]? from Blk.cell hg j)]
   rw [← c4,List.getElem?_take,if_pos hlt] at hj
   simpa using hj
theorem setNext_args {ts : List Tm} (h : ∀ a ∈ ts,a.args.length ≤ 100000) (i : Nat) (x : Int) : ∀ a ∈ setNext ts i x,a.args.length ≤ 100000:=by
 intro a ha
 unfold setNext at ha
 cases h1 : ts[i]? with
 | none => rw [h1] at ha;exact h a ha
 | some c =>
  rw [h1] at ha
  rcases List.mem_or_eq_of_mem_set ha with h2 | rfl
  ·exact h a h2
  ·exact h c (List.mem_of_getElem? h1)
def JoinP (N : Nat → Prop) (b : Nat) (n : Int) (tv : Value) (r : Option (List Tm)) (w : World) (e : Ending) (w' : World) : Prop:=
 match r with
 | some ts => e = .returned (.tuple #[]) ∧ SolV w' N b n ts tv ∧ SolFr b tv tv w w'
 | none => e = failE 8 ∧ SolFr b tv tv w w'
theorem rowsQ_pop {x y : Int} {ps : List (Int × Int)} {w : World} {N : Nat → Prop} {xs : List Value} (h : InN w N (rowsQ qPair (ps ++ [(x,y)])) xs) : ∃ l,xs = l ++ [.int .i64 x,.int .i64 y] ∧ l.length = ps.length * 2 ∧ InN w N (rowsQ qPair ps) l:=by
 rw [rowsQ_snoc] at h
 obtain ⟨a,c,rfl,h1,h2⟩:=h.split
 unfold qPair at h2
 obtain ⟨d,rfl,h3⟩:=inn_int h2
 obtain ⟨d',rfl,h4⟩:=inn_int h3
 obtain rfl:=inn_nil h4
 exact ⟨a,rfl,by rw [h1.len,rowsQ_ln ln_qPair],h1⟩
theorem pairs_last {w : World} {N : Nat → Prop} {B : Nat} {ps : List (Int × Int)} {x y : Int} {v : Value} (h : OwnL w N B 110 2 (ps.length + 1) (rowsQ qPair (ps ++ [(x,y)])) v) :
  ∃ g cap,v = .slice (some ⟨g,0,none⟩) (ps.length + 1) cap ∧ B ≤ g ∧ g < w.heap.size ∧ ps.length + 1 ≤ cap ∧ cap ≤ maxLen ∧ w.cell? ⟨g,ps.length * 2,none⟩ = some (.int .i64 x) ∧ w.cell? ⟨g,ps.length * 2 + 1,none⟩ = some (.int .i64 y) ∧
   OwnL w N B 110 2 ps.length (rowsQ qPair ps) (.slice (some ⟨g,0,none⟩) ps.length cap):=by
 obtain ⟨xs,h1,hq⟩:=h
 obtain ⟨l,rfl,hl,hq2⟩:=rowsQ_pop hq
 have h1':=h1
 rcases h1.2 with ⟨_,h0⟩ | ⟨g,cap,cur,rfl,hB,hg,c1,c2,c3,c4⟩
 ·omega
 ·have hcell : ∀ j,j < (ps.length + 1) * 2 → w.cell? ⟨g,j,none⟩ = (l ++ [Value.int .i64 x,.int .i64 y])[j]?:=fun j hj => by
   rw [(show w.cell? ⟨g,j,none⟩ = cur[j]? from Blk.cell hg j),← c4,List.getElem?_take,if_pos hj]
   simp
  refine ⟨g,cap,rfl,hB,(Array.getElem?_eq_some_iff.1 hg).1,c1,c2,?_,?_,l,ownsRow_pop hl h1',hq2⟩
  ·rw [hcell _ (by omega),List.getElem?_append_right (by omega),hl];simp
  ·rw [hcell _ (by omega),List.getElem?_append_right (by omega),hl];simp
set_option maxRecDepth 100000 in
set_option maxHeartbeats 3200000 in
theorem join_any (b : Nat) (n : Int) (N : Nat → Prop) (f : Nat) (ts : List Tm) (x y : Int) (r : Option (List Tm)) (tv : Value) (w : World) (hS : SolV w N b n ts tv) (hN : ∀ k,w.heap.size ≤ k → N k) (hsz : ∀ a ∈ ts,a.args.length ≤ 100000) (hf : f ≤ 5) (hr : Un.join f n ts [(x,y)] = some r) :
  Calls Try.prog 67 #[.pointer (some ⟨b,0,none⟩),.int .i64 x,.int .i64 y] w (JoinP N b n tv r w):=by
 have HS:=hid hS
 have HR:=hid hr
 obtain ⟨w1,hw1⟩ : ∃ w1,w1 = w.alloc (.cells #[.int .i64 x,.int .i64 y] 110):=⟨_,rfl⟩
 have HF0 : Hid (Fr [] w w1):=hid (by rw [hw1];exact (Fr.refl _ _).alloc _)
 have HB0 : Hid (Blk w1 w.heap.size 110 #[.int .i64 x,.int .i64 y]):=hid (by rw [hw1];exact Blk.new _ _ _)
 clear hS hr
 go_enter Try.func67,Try.ntmps67
 go_wp2_with fail
 rw [← hw1]
 clear hw1
 have hP0 : OwnL w1 (fun _ => False) w.heap.size 110 2 1 (rowsQ qPair [(x,y)]) (.slice (some ⟨w.heap.size,0,none⟩) 1 1):=
  ⟨[.int .i64 x,.int .i64 y],⟨rfl,.inr ⟨w.heap.size,1,#[.int .i64 x,.int .i64 y],rfl,Nat.le_refl _,HB0.out,by decide,by unfold maxLen;decide,rfl,rfl⟩⟩,by rw [rowsQ_one];exact InN.mk_int (InN.mk_int (InN.mk_nil _ _))⟩
 have HP0:=hid hP0
 have HS0 : Hid (SolV w1 (fun k => N k ∧ (Value.slice (some ⟨w.heap.size,0,none⟩) 1 1).ownBlock ≠ some k) b n ts tv):=hid ((HS.out.weak (fun k hk hx => ⟨hx,fun e => by simp [Value.ownBlock] at e;omega⟩)).keep0 HF0.out)
 have hNE0 : ∀ g,(Value.slice (some ⟨w.heap.size,0,none⟩) 1 1).ownBlock = some g → tv.ownBlock ≠ some g:=fun g hg e => by
  have h1:=(HS.out.l.own g e).2
  simp [Value.ownBlock] at hg
  omega
 have HNE0:=hid hNE0
 have HSZ:=hid hsz
 obtain ⟨i0,hi0,hz0,hz1,hz2⟩:=info_parts info_pair
 have HI0:=hid hi0
 clear hP0 hNE0 hsz hi0
 go_loopg [6] f (fun gg v wr => ∃ (ts' : List Tm) (ps : List (Int × Int)),Hid (Un.join gg n ts' ps = some r) ∧ Hid (SolV wr (fun k => N k ∧ v.ownBlock ≠ some k) b n ts' tv) ∧ Hid (SolFr b tv tv w wr) ∧ Hid (OwnL wr (fun _ => False) w.heap.size 110 2 ps.length (rowsQ qPair ps) v) ∧ Hid (∀ g,v.ownBlock = some g → tv.ownBlock ≠ some g) ∧ ps.length + gg * 100000 ≤ 600000 ∧ Hid (∀ a ∈ ts',a.args.length ≤ 100000))
 case atStart => exact ⟨ts,[(x,y)],HR,HS0,hid (SolFr.of_fr HF0.out),HP0,HNE0,by simp;omega,HSZ⟩
 case round =>
  obtain ⟨ts1,ps,HQ,HS1,HFR,HP,HNE,hps,HAL⟩:=hrel
  obtain ⟨f1,hf1⟩ : ∃ f1,gk = f1 + 1:=by
   cases gk with
   | zero => have h0:=HQ.out;simp [Un.join] at h0
   | succ f1 => exact ⟨f1,rfl⟩
  subst hf1
  rcases List.eq_nil_or_concat ps with rfl | ⟨qs,⟨px,py⟩,hqs⟩
  ·have hr : r = some ts1:=by
    have h0:=HQ.out
    simp [Un.join] at h0
    exact h0.symm
   subst hr
   obtain ⟨pp,cp,rfl⟩:=HP.out.shape
   simp only [List.length_nil] at hps ⊢
   go_wp2_with fail
   first | go_end0 | refine bodyPost_ret (results_none rfl _ _ _) rfl ?_
   exact ⟨rfl,HS1.out.weak (fun k _ h => h.1),HFR.out⟩
  ·rw [List.concat_eq_append] at hqs
   subst hqs
   obtain ⟨a,c,ha,hc,han,hcn,hcase⟩:=join_step HQ.out
   rw [List.length_append,List.length_singleton] at hps
   have hP1:=HP.out
   rw [List.length_append,List.length_singleton] at hP1
   obtain ⟨pg,pc,rfl,hpB,hpl,hpc,hpm,x0,x1,hpop⟩:=pairs_last hP1
   unfold maxLen at hpm
   have HPOP:=hid hpop
   have HX : Hid (∀ k,Calls Try.prog 88 #[.pointer (some ⟨b,0,none⟩),.int .i64 px] (wr.drewN k) fun e w' => e = .returned (.int .i64 px) ∧ w' = (wr.drewN k)):=
    hid fun k => (root_any b n _ ts1 px a tv _ (HS1.out.keep0 ((Fr.refl [] wr).drewN k)) ha han).mono fun e w' h => ⟨h.1,h.2.symm⟩
   have HY : Hid (∀ k,Calls Try.prog 88 #[.pointer (some ⟨b,0,none⟩),.int .i64 py] (wr.drewN k) fun e w' => e = .returned (.int .i64 py) ∧ w' = (wr.drewN k)):=
    hid fun k => (root_any b n _ ts1 py c tv _ (HS1.out.keep0 ((Fr.refl [] wr).drewN k)) hc hcn).mono fun e w' h => ⟨h.1,h.2.symm⟩
   have HA:=hid ha
   have HC:=hid hc
   have HAN:=hid han
   have HCN:=hid hcn
   have HCASE:=hid hcase
   obtain ⟨m,hm⟩ : ∃ m,m = qs.length:=⟨_,rfl⟩
   have HM:=hid hm
   rw [← hm] at hps hpc x0 x1 HPOP
   simp only [List.length_append,List.length_singleton,← hm]
   have hd0 : decide (0 < ((m + 1 : Nat) : Int)) = true:=by first | (simp;done) | (simp;omega)
   have hd1 : decide (m < m + 1) = true:=by simp
   clear ha hc han hcn hcase hpop hP1 hm
   have hd2 : decide ((m : Int) < ((m + 1 : Nat) : Int)) = true:=by first | (simp;done) | (simp;omega)
   go_wp2_with fail
   go_quiet ((first | (go_at_call 88;with_reducible exact Calls.quiet_of_same (HX.out _)) | (go_at_call 88;with_reducible exact Calls.quiet_of_same (HY.out _))))
   have HALL : Hid (∀ k,SolV (wr.drewN k) (fun k => N k ∧ (Value.slice (some ⟨pg,0,none⟩) (m + 1) pc).ownBlock ≠ some k) b n ts1 tv ∧ SolFr b tv tv w (wr.drewN k) ∧ OwnL (wr.drewN k) (fun _ => False) w.heap.size 110 2 m (rowsQ qPair qs) (.slice (some ⟨pg,0,none⟩) m pc)):=hid fun k =>
    ⟨HM.out ▸ HS1.out.keep0 ((Fr.refl [] wr).drewN k),HFR.out.trans (SolFr.of_fr ((Fr.refl [] wr).drewN k)),HPOP.out.keep ((Fr.refl [] wr).drewN k) (by simp)⟩
   have HNEG : Hid (tv.ownBlock ≠ some pg):=hid (HNE.out pg rfl)
   clear x0 x1 hpl HX HY HS1 HFR HPOP HP HNE
   generalize hwq : wr.drewN _ = w3
   obtain ⟨hs3,hf3,ho3⟩:=HALL.out _
   rw [hwq] at hs3 hf3 ho3
   have HS3:=hid hs3
   have HF3:=hid hf3
   have HO3:=hid ho3
   clear hs3 hf3 ho3 hwq HALL
   have hm1 : decide (m ≤ pc) = true:=by simp;omega
   have s0 : w3.cell? ⟨b,0,none⟩ = some (.int .i64 n):=HS3.out.blk.cell 0
   have s1 : w3.cell? ⟨b,1,none⟩ = some tv:=HS3.out.blk.cell 1
   have sl : b < w3.heap.size:=HS3.out.blk.lt
   rcases HCASE.out with ⟨rfl,hj⟩ | ⟨hne,hlt,hj⟩ | ⟨hne,hnl,hlt,hj⟩ | ⟨hne,hnl,hnl2,hhd,hj⟩ | ⟨hne,hnl,hnl2,hhd,rfl⟩
   ·have HJ:=hid hj
    have e1 : (px == px) = true:=by simp
    clear hj
    go_wp2_with fail
    go_roundg f1
    case measure => omega
    case rel => exact ⟨ts1,qs,HJ,hid HS3.out,HF3,by rw [← HM.out];exact HO3,hid (fun g hg => by simp only [Value.ownBlock,Option.some.injEq] at hg;subst hg;exact HNEG.out),by rw [← HM.out];omega,HAL⟩
   ·have HJ:=hid hj
    clear hj
    obtain ⟨k,hk0,hk,hka⟩:=tm_some HA.out
    subst hk0
    obtain ⟨g,cap,p,c0,pv,cv,rfl,q1,q2,q3,q4,e0,e1,e2,e3,e4,q5,q6,q7⟩:=HS3.out.el hka
    unfold maxLen at q2
    have hd3 : decide (k < ts1.length) = true:=by simpa using hk
    have hd4 : decide ((k : Int) < (ts1.length : Int)) = true:=by simp;omega
    have f4 : w3.frozen? ⟨g,k * 5 + 4,none⟩ = false:=q5 _
    have hpg : pg ≠ g:=fun e => HNEG.out (by rw [e];rfl)
    have hbg : b ≠ g:=by omega
    have HK:=hid hk
    have HPG:=hid hpg
    have u1 : ((k : Int) == py) = false:=by simpa using hne
    have u2 : decide ((k : Int) < n) = true:=by simpa using hlt
    have HS4:=hid (HS3.out.set HK.out py)
    have HF4:=hid (HF3.out.trans (SolFr.set (b:=b) (n:=ts1.length) (cap:=cap) (o:=k * 5 + 4) (g:=g) (.int .i64 py)))
    have HO4:=hid (HO3.out.keepX (X:=[g]) ((Fr.refl [g] w3).setCell (p:=⟨g,k * 5 + 4,none⟩) (.inl (by simp)) (.int .i64 py)) (fun z hz => by
     rw [List.mem_singleton.1 hz]
     exact ⟨fun e => HPG.out (by simpa [Value.ownBlock] using e),fun h => h⟩))
    have HAL4:=hid (setNext_args HAL.out k py)
    clear e0 e1 e2 e3 q5 q6 q7 hka hne hlt hk hpg
    go_wp2_with fail
    clear e4
    go_roundg f1
    case measure => omega
    case rel => exact ⟨setNext ts1 k py,qs,HJ,hid HS4.out,HF4,by rw [← HM.out];exact HO4,hid (fun z hz => by simp only [Value.ownBlock,Option.some.injEq] at hz;subst hz;exact HNEG.out),by rw [← HM.out];omega,HAL4⟩
   ·have HJ:=hid hj
    clear hj
    obtain ⟨k,hk0,hk,hka⟩:=tm_some HC.out
    subst hk0
    obtain ⟨g,cap,p,c0,pv,cv,rfl,q1,q2,q3,q4,e0,e1,e2,e3,e4,q5,q6,q7⟩:=HS3.out.el hka
    unfold maxLen at q2
    have hd3 : decide (k < ts1.length) = true:=by simpa using hk
    have hd4 : decide ((k : Int) < (ts1.length : Int)) = true:=by simp;omega
    have f4 : w3.frozen? ⟨g,k * 5 + 4,none⟩ = false:=q5 _
    have hpg : pg ≠ g:=fun e => HNEG.out (by rw [e];rfl)
    have hbg : b ≠ g:=by omega
    have HK:=hid hk
    have HPG:=hid hpg
    have u1 : (px == (k : Int)) = false:=by simpa using hne
    have u2 : decide (px < n) = false:=by simpa using hnl
    have u3 : decide ((k : Int) < n) = true:=by simpa using hlt
    have HS4:=hid (HS3.out.set HK.out px)
    have HF4:=hid (HF3.out.trans (SolFr.set (b:=b) (n:=ts1.length) (cap:=cap) (o:=k * 5 + 4) (g:=g) (.int .i64 px)))
    have HO4:=hid (HO3.out.keepX (X:=[g]) ((Fr.refl [g] w3).setCell (p:=⟨g,k * 5 + 4,none⟩) (.inl (by simp)) (.int .i64 px)) (fun z hz => by
     rw [List.mem_singleton.1 hz]
     exact ⟨fun e => HPG.out (by simpa [Value.ownBlock] using e),fun h => h⟩))
    have HAL4:=hid (setNext_args HAL.out k px)
    clear e0 e1 e2 e3 q5 q6 q7 hka hne hnl hlt hk hpg
    go_wp2_with fail
    clear e4
    go_roundg f1
    case measure => omega
    case rel => exact ⟨setNext ts1 k px,qs,HJ,hid HS4.out,HF4,by rw [← HM.out];exact HO4,hid (fun z hz => by simp only [Value.ownBlock,Option.some.injEq] at hz;subst hz;exact HNEG.out),by rw [← HM.out];omega,HAL4⟩
   ·have HJ:=hid hj
    clear hj
    obtain ⟨k,hk0,hk,hka⟩:=tm_some HA.out
    subst hk0
    obtain ⟨g,cap,p,c0,pv,cv,rfl,q1,q2,q3,q4,e0,e1,e2,e3,e4,q5,q6,q7⟩:=HS3.out.el hka
    unfold maxLen at q2
    have hd3 : decide (k < ts1.length) = true:=by simpa using hk
    have hd4 : decide ((k : Int) < (ts1.length : Int)) = true:=by simp;omega
    have f4 : w3.frozen? ⟨g,k * 5 + 4,none⟩ = false:=q5 _
    have hpg : pg ≠ g:=fun e => HNEG.out (by rw [e];rfl)
    have hbg : b ≠ g:=by omega
    have HK:=hid hk
    have HPG:=hid hpg
    obtain ⟨l,hl0,hl,hlc⟩:=tm_some HC.out
    subst hl0
    have hkl : k ≠ l:=fun e => hne (by rw [e])
    have u1 : ((k : Int) == (l : Int)) = false:=by simp;omega
    have u2 : decide ((k : Int) < n) = false:=by simpa using hnl
    have u3 : decide ((l : Int) < n) = false:=by simpa using hnl2
    have hd5 : decide (l < ts1.length) = true:=by simpa using hl
    have hd6 : decide ((l : Int) < (ts1.length : Int)) = true:=by simp;omega
    have HS4:=hid (HS3.out.set HK.out l)
    have HF4:=hid (HF3.out.trans (SolFr.set (b:=b) (n:=ts1.length) (cap:=cap) (o:=k * 5 + 4) (g:=g) (.int .i64 l)))
    have HO4:=hid (HO3.out.keepX (X:=[g]) ((Fr.refl [g] w3).setCell (p:=⟨g,k * 5 + 4,none⟩) (.inl (by simp)) (.int .i64 l)) (fun z hz => by
     rw [List.mem_singleton.1 hz]
     exact ⟨fun e => HPG.out (by simpa [Value.ownBlock] using e),fun h => h⟩))
    have HAL4:=hid (setNext_args HAL.out k l)
    have hta : (setNext ts1 k (l : Int))[k]? = some { a with next:=(l : Int) }:=by
     rw [Un.setNext_eq hk,List.getElem?_set_self hk]
     rw [List.getElem?_eq_getElem hk] at hka
     cases hka;rfl
    have htc : (setNext ts1 k (l : Int))[l]? = some c:=by rw [Un.setNext_eq hk,List.getElem?_set_ne hkl];exact hlc
    have HTA:=hid hta
    have HTC:=hid htc
    have HHD2 : Hid (headOk { a with next:=(l : Int) } c = true):=hid hhd
    have HAA : Hid (a.args.length ≤ 100000):=hid (HAL.out a (List.mem_of_getElem? hka))
    clear e0 e1 e2 e3 q5 q6 q7 hka hne hnl hnl2 hpg hlc hta htc hhd
    go_wp2_with fail
    clear e4
    clear s0 s1 sl f4 HS3 HF3 HO3
    generalize hw4 : w3.setCell ⟨g,k * 5 + 4,none⟩ (.int .i64 (l : Int)) = w4
    rw [hw4] at HS4 HF4 HO4
    clear hw4
    have s1 : w4.cell? ⟨b,1,none⟩ = some (.slice (some ⟨g,0,none⟩) ts1.length cap):=HS4.out.blk.cell 1
    have sl : b < w4.heap.size:=HS4.out.blk.lt
    obtain ⟨g',cap',p1,c1,pv1,cv1,heq,_,_,_,q4,e0,e1,e2,e3,e4,_,ty1,in1⟩:=HS4.out.el HTA.out
    simp only [Value.slice.injEq,Option.some.injEq,Addr.mk.injEq,and_true,true_and] at heq
    obtain ⟨rfl,hh,rfl⟩:=heq
    clear hh
    obtain ⟨g',cap',p2,c2,pv2,cv2,heq,_,_,_,_,d0,d1,d2,d3,d4,_,ty2,in2⟩:=HS4.out.el HTC.out
    simp only [Value.slice.injEq,Option.some.injEq,Addr.mk.injEq,and_true,true_and] at heq
    obtain ⟨rfl,hh,rfl⟩:=heq
    clear hh
    have T1:=hid (TmV.mk ty1 in1)
    have T2:=hid (TmV.mk ty2 in2)
    simp only at e0 e1 e2 e3 e4 T1
    clear ty1 in1 ty2 in2
    have HW4 : Hid (∀ k,SolFr b (.slice (some ⟨g,0,none⟩) ts1.length cap) (.slice (some ⟨g,0,none⟩) ts1.length cap) w4 (w4.drewN k)):=hid fun k => SolFr.of_fr ((Fr.refl [] w4).drewN k)
    obtain ⟨zs,hzs⟩ : ∃ zs,zs = a.args.zip c.args:=⟨_,rfl⟩
    have HZL : Hid (zs.length ≤ 100000):=hid (by have h1:=HAA.out;rw [hzs];simp;omega)
    rw [← hzs] at HJ
    have HOK : Hid (∀ k,Calls Try.prog 89 #[.pointer (some ⟨b,0,none⟩),.agg #[.int .i64 (kd a.t),.int .i64 (nm a.t),.slice p1 (ar a.t).length c1,.slice pv1 a.args.length cv1,.int .i64 (l : Int)],.agg #[.int .i64 (kd c.t),.int .i64 (nm c.t),.slice p2 (ar c.t).length c2,.slice pv2 c.args.length cv2,.int .i64 c.next]] (w4.drewN k) (PairsP zs (w4.drewN k))):=hid fun k => hzs ▸ args_ok b { a with next:=(l : Int) } c _ _ _ _ (w4.drewN k) (InN.keep0 T1.out ((Fr.refl [] w4).drewN k)) (InN.keep0 T2.out ((Fr.refl [] w4).drewN k)) HHD2.out HAA.out
    have HZS:=hid hzs
    clear hzs
    go_region_law (first | (refine step_append_ownl_src _ (by rfl) _ _ 111 (by rfl) (fun _ => False) w.heap.size 110 i0 _ 2 16 Try.underlying111 HI0.out hz0 hz1 hz2 rfl (by decide) (.slice (some ⟨pg,0,none⟩) m pc) _ m zs.length (rowsQ qPair qs) (rowsQ qPair zs) (by rfl) (by rfl) HO6.out HSRC.out (by have h1:=HZL.out;omega) (by decide) HB6.out ?_;intro p7 c7 w7 hL7 hg7 hv7;have HL7:=hid hL7;have HG7:=hid hg7;have HV7:=hid hv7;clear hL7 hg7 hv7) | (go_simp;go_at_call 89;refine (HOK.out 1).mono ?_;rintro e w6 ⟨v6,rfl,ho6,hf6,hv6⟩;have HF6:=hid ((HF4.out.trans (HW4.out 1)).trans (SolFr.of_fr hf6));have HS6:=hid ((HS4.out.keep0 ((Fr.refl [] w4).drewN 1)).keep0 hf6);have HO6:=hid ((HO4.out.keep ((Fr.refl [] w4).drewN 1) (by simp)).keep hf6 (by simp));have HSRC:=hid (src_of_pairs (N:=fun k => False ∧ some k ≠ (Value.slice (some ⟨pg,0,none⟩) m pc).ownBlock) ho6 hv6);have HB6 : Hid (w.heap.size ≤ w6.heap.size):=hid HF6.out.size;clear ho6 hf6 hv6))
    all_goals
     have hvo : ∀ z,(Value.slice (some ⟨pg,0,none⟩) m pc).ownBlock = some z → z ≠ b ∧ (Value.slice (some ⟨g,0,none⟩) ts1.length cap).ownBlock ≠ some z:=fun z hz => by
      simp only [Value.ownBlock,Option.some.injEq] at hz
      subst hz
      exact ⟨by have:=HS.out.lt;omega,fun e => HPG.out (by simpa [Value.ownBlock] using e.symm)⟩
     have HS8:=hid (SolV.grown (v':=.slice p7 (m + zs.length) c7) HS6.out HG7.out HV7.out hvo)
     have HF8:=hid (HF6.out.grown HG7.out (fun z hz => by simp only [Value.ownBlock,Option.some.injEq] at hz;omega))
     have HNE8 : Hid (∀ z,(Value.slice p7 (m + zs.length) c7).ownBlock = some z → (Value.slice (some ⟨g,0,none⟩) ts1.length cap).ownBlock ≠ some z):=hid (fun z hz e => by
      rcases HV7.out z hz with h1 | h1
      ·have h2:=(HS6.out.l.own z e).2
       omega
      ·exact (hvo z h1).2 e)
     have hzl:=HZL.out
     clear hvo
     go_wp2_with fail
     go_roundg f1
     case measure => omega
     case rel => exact ⟨setNext ts1 k l,qs ++ zs,HJ,HS8,HF8,by rw [List.length_append,← HM.out,rowsQ_app];exact HL7,HNE8,by rw [List.length_append,← HM.out];omega,HAL4⟩
   ·have HHD:=hid hhd
    obtain ⟨k,hk0,hk,hka⟩:=tm_some HA.out
    subst hk0
    obtain ⟨g,cap,p,c0,pv,cv,rfl,q1,q2,q3,q4,e0,e1,e2,e3,e4,q5,q6,q7⟩:=HS3.out.el hka
    unfold maxLen at q2
    have hd3 : decide (k < ts1.length) = true:=by simpa using hk
    have hd4 : decide ((k : Int) < (ts1.length : Int)) = true:=by simp;omega
    have f4 : w3.frozen? ⟨g,k * 5 + 4,none⟩ = false:=q5 _
    have hpg : pg ≠ g:=fun e => HNEG.out (by rw [e];rfl)
    have hbg : b ≠ g:=by omega
    have HK:=hid hk
    have HPG:=hid hpg
    obtain ⟨l,hl0,hl,hlc⟩:=tm_some HC.out
    subst hl0
    have hkl : k ≠ l:=fun e => hne (by rw [e])
    have u1 : ((k : Int) == (l : Int)) = false:=by simp;omega
    have u2 : decide ((k : Int) < n) = false:=by simpa using hnl
    have u3 : decide ((l : Int) < n) = false:=by simpa using hnl2
    have hd5 : decide (l < ts1.length) = true:=by simpa using hl
    have hd6 : decide ((l : Int) < (ts1.length : Int)) = true:=by simp;omega
    have HS4:=hid (HS3.out.set HK.out l)
    have HF4:=hid (HF3.out.trans (SolFr.set (b:=b) (n:=ts1.length) (cap:=cap) (o:=k * 5 + 4) (g:=g) (.int .i64 l)))
    have HO4:=hid (HO3.out.keepX (X:=[g]) ((Fr.refl [g] w3).setCell (p:=⟨g,k * 5 + 4,none⟩) (.inl (by simp)) (.int .i64 l)) (fun z hz => by
     rw [List.mem_singleton.1 hz]
     exact ⟨fun e => HPG.out (by simpa [Value.ownBlock] using e),fun h => h⟩))
    have HAL4:=hid (setNext_args HAL.out k l)
    have hta : (setNext ts1 k (l : Int))[k]? = some { a with next:=(l : Int) }:=by
     rw [Un.setNext_eq hk,List.getElem?_set_self hk]
     rw [List.getElem?_eq_getElem hk] at hka
     cases hka;rfl
    have htc : (setNext ts1 k (l : Int))[l]? = some c:=by rw [Un.setNext_eq hk,List.getElem?_set_ne hkl];exact hlc
    have HTA:=hid hta
    have HTC:=hid htc
    have HHD2 : Hid (headOk { a with next:=(l : Int) } c = false):=hid hhd
    have HAA : Hid (a.args.length ≤ 100000):=hid (HAL.out a (List.mem_of_getElem? hka))
    clear e0 e1 e2 e3 q5 q6 q7 hka hne hnl hnl2 hpg hlc hta htc hhd
    go_wp2_with fail
    clear e4
    clear s0 s1 sl f4 HS3 HF3 HO3
    generalize hw4 : w3.setCell ⟨g,k * 5 + 4,none⟩ (.int .i64 (l : Int)) = w4
    rw [hw4] at HS4 HF4 HO4
    clear hw4
    have s1 : w4.cell? ⟨b,1,none⟩ = some (.slice (some ⟨g,0,none⟩) ts1.length cap):=HS4.out.blk.cell 1
    have sl : b < w4.heap.size:=HS4.out.blk.lt
    obtain ⟨g',cap',p1,c1,pv1,cv1,heq,_,_,_,q4,e0,e1,e2,e3,e4,_,ty1,in1⟩:=HS4.out.el HTA.out
    simp only [Value.slice.injEq,Option.some.injEq,Addr.mk.injEq,and_true,true_and] at heq
    obtain ⟨rfl,hh,rfl⟩:=heq
    clear hh
    obtain ⟨g',cap',p2,c2,pv2,cv2,heq,_,_,_,_,d0,d1,d2,d3,d4,_,ty2,in2⟩:=HS4.out.el HTC.out
    simp only [Value.slice.injEq,Option.some.injEq,Addr.mk.injEq,and_true,true_and] at heq
    obtain ⟨rfl,hh,rfl⟩:=heq
    clear hh
    have T1:=hid (TmV.mk ty1 in1)
    have T2:=hid (TmV.mk ty2 in2)
    simp only at e0 e1 e2 e3 e4 T1
    clear ty1 in1 ty2 in2
    have HW4 : Hid (∀ k,SolFr b (.slice (some ⟨g,0,none⟩) ts1.length cap) (.slice (some ⟨g,0,none⟩) ts1.length cap) w4 (w4.drewN k)):=hid fun k => SolFr.of_fr ((Fr.refl [] w4).drewN k)
    have HBAD : Hid (∀ k,Calls Try.prog 89 #[.pointer (some ⟨b,0,none⟩),.agg #[.int .i64 (kd a.t),.int .i64 (nm a.t),.slice p1 (ar a.t).length c1,.slice pv1 a.args.length cv1,.int .i64 (l : Int)],.agg #[.int .i64 (kd c.t),.int .i64 (nm c.t),.slice p2 (ar c.t).length c2,.slice pv2 c.args.length cv2,.int .i64 c.next]] (w4.drewN k) fun e w' => e = failE 8 ∧ Fr [] (w4.drewN k) w'):=hid fun k => args_bad b { a with next:=(l : Int) } c _ _ _ _ (w4.drewN k) (InN.keep0 T1.out ((Fr.refl [] w4).drewN k)) (InN.keep0 T2.out ((Fr.refl [] w4).drewN k)) HHD2.out
    refine wp_region_any (by kernel_rfl) ?_
    change wpAny _ _ _ _ _ _ _ (World.drew _)
    repeat' (first | (refine wpAny_take (i:=0) (v:=.slice (some ⟨pg,0,none⟩) m pc) rfl ?_ ?_ ?_ (fun _ _ _ h => h) (Or.inl ⟨by rfl,?_⟩) ?_;(focus (decide +kernel));(focus (decide +kernel));(focus (decide +kernel));(focus (intro w;go_simp;try with_reducible rfl))) | (refine wpAny_take (i:=1) (v:=.pointer (some ⟨b,0,none⟩)) rfl ?_ ?_ ?_ (fun _ _ _ h => h) (Or.inl ⟨by rfl,?_⟩) ?_;(focus (decide +kernel));(focus (decide +kernel));(focus (decide +kernel));(focus (intro w;go_simp;try with_reducible rfl))) | (refine wpAny_take (i:=2) (v:=.pointer (some ⟨b,0,none⟩)) rfl ?_ ?_ ?_ (fun _ _ _ h => h) (Or.inl ⟨by rfl,?_⟩) ?_;(focus (decide +kernel));(focus (decide +kernel));(focus (decide +kernel));(focus (intro w;go_simp;try with_reducible rfl))) | (refine wpAny_take (i:=3) (v:=.pointer (some ⟨b,0,none⟩)) rfl ?_ ?_ ?_ (fun _ _ _ h => h) (Or.inl ⟨by rfl,?_⟩) ?_;(focus (decide +kernel));(focus (decide +kernel));(focus (decide +kernel));(focus (intro w;go_simp;try with_reducible rfl))) | (refine wpAny_take (i:=4) (v:=.pointer (some ⟨b,1,none⟩)) rfl ?_ ?_ ?_ (fun _ _ _ h => h) (Or.inl ⟨by rfl,?_⟩) ?_;(focus (decide +kernel));(focus (decide +kernel));(focus (decide +kernel));(focus (intro w;go_simp;try with_reducible rfl))) | (refine wpAny_take (i:=6) (v:=.int .i64 k) rfl ?_ ?_ ?_ (fun _ _ _ h => h) (Or.inl ⟨by rfl,?_⟩) ?_;(focus (decide +kernel));(focus (decide +kernel));(focus (decide +kernel));(focus (intro w;go_simp;try with_reducible rfl))) | (refine wpAny_take (i:=9) (v:=.pointer (some ⟨b,0,none⟩)) rfl ?_ ?_ ?_ (fun _ _ _ h => h) (Or.inl ⟨by rfl,?_⟩) ?_;(focus (decide +kernel));(focus (decide +kernel));(focus (decide +kernel));(focus (intro w;go_simp;try with_reducible rfl))) | (refine wpAny_take (i:=10) (v:=.pointer (some ⟨b,0,none⟩)) rfl ?_ ?_ ?_ (fun _ _ _ h => h) (Or.inl ⟨by rfl,?_⟩) ?_;(focus (decide +kernel));(focus (decide +kernel));(focus (decide +kernel));(focus (intro w;go_simp;try with_reducible rfl))) | (refine wpAny_take (i:=11) (v:=.pointer (some ⟨b,1,none⟩)) rfl ?_ ?_ ?_ (fun _ _ _ h => h) (Or.inl ⟨by rfl,?_⟩) ?_;(focus (decide +kernel));(focus (decide +kernel));(focus (decide +kernel));(focus (intro w;go_simp;try with_reducible rfl))) | (refine wpAny_take (i:=13) (v:=.int .i64 l) rfl ?_ ?_ ?_ (fun _ _ _ h => h) (Or.inl ⟨by rfl,?_⟩) ?_;(focus (decide +kernel));(focus (decide +kernel));(focus (decide +kernel));(focus (intro w;go_simp;try with_reducible rfl))) | (refine wpAny_ready (rs:=[16]) ?_ (by simp) ?_;(focus (decide +kernel));refine AllReady.cons rfl (fun K hK => ?_) AllReady.nil;go_simp;go_at_call 89;refine (HBAD.out 1).mono ?_;rintro e w6 ⟨rfl,hf6⟩;exact ⟨rfl,rfl,(HF4.out.trans (HW4.out 1)).trans (SolFr.of_fr hf6)⟩) | (refine wpAny_ready (rs:=[5,12]) ?_ (by simp) ?_;(focus (decide +kernel));refine AllReady.cons rfl (fun K hK => ?_) (AllReady.cons rfl (fun K hK => ?_) AllReady.nil) <;> (go_simp;refine hK _ _ ?_;clear hK K)) | (refine wpAny_ready (rs:=[5,14]) ?_ (by simp) ?_;(focus (decide +kernel));refine AllReady.cons rfl (fun K hK => ?_) (AllReady.cons rfl (fun K hK => ?_) AllReady.nil) <;> (go_simp;refine hK _ _ ?_;clear hK K)) | (refine wpAny_ready (rs:=[5,15]) ?_ (by simp) ?_;(focus (decide +kernel));refine AllReady.cons rfl (fun K hK => ?_) (AllReady.cons rfl (fun K hK => ?_) AllReady.nil) <;> (go_simp;refine hK _ _ ?_;clear hK K)) | (refine wpAny_ready (rs:=[7,12]) ?_ (by simp) ?_;(focus (decide +kernel));refine AllReady.cons rfl (fun K hK => ?_) (AllReady.cons rfl (fun K hK => ?_) AllReady.nil) <;> (go_simp;refine hK _ _ ?_;clear hK K)) | (refine wpAny_ready (rs:=[7,14]) ?_ (by simp) ?_;(focus (decide +kernel));refine AllReady.cons rfl (fun K hK => ?_) (AllReady.cons rfl (fun K hK => ?_) AllReady.nil) <;> (go_simp;refine hK _ _ ?_;clear hK K)) | (refine wpAny_ready (rs:=[7,15]) ?_ (by simp) ?_;(focus (decide +kernel));refine AllReady.cons rfl (fun K hK => ?_) (AllReady.cons rfl (fun K hK => ?_) AllReady.nil) <;> (go_simp;refine hK _ _ ?_;clear hK K)) | (refine wpAny_ready (rs:=[8,12]) ?_ (by simp) ?_;(focus (decide +kernel));refine AllReady.cons rfl (fun K hK => ?_) (AllReady.cons rfl (fun K hK => ?_) AllReady.nil) <;> (go_simp;refine hK _ _ ?_;clear hK K)) | (refine wpAny_ready (rs:=[8,14]) ?_ (by simp) ?_;(focus (decide +kernel));refine AllReady.cons rfl (fun K hK => ?_) (AllReady.cons rfl (fun K hK => ?_) AllReady.nil) <;> (go_simp;refine hK _ _ ?_;clear hK K)) | (refine wpAny_ready (rs:=[8,15]) ?_ (by simp) ?_;(focus (decide +kernel));refine AllReady.cons rfl (fun K hK => ?_) (AllReady.cons rfl (fun K hK => ?_) AllReady.nil) <;> (go_simp;refine hK _ _ ?_;clear hK K)) | (refine wpAny_ready (rs:=[5]) ?_ (by simp) ?_;(focus (decide +kernel));refine AllReady.cons rfl (fun K hK => ?_) AllReady.nil;go_simp;refine hK _ _ ?_;clear hK K) | (refine wpAny_ready (rs:=[7]) ?_ (by simp) ?_;(focus (decide +kernel));refine AllReady.cons rfl (fun K hK => ?_) AllReady.nil;go_simp;refine hK _ _ ?_;clear hK K) | (refine wpAny_ready (rs:=[8]) ?_ (by simp) ?_;(focus (decide +kernel));refine AllReady.cons rfl (fun K hK => ?_) AllReady.nil;go_simp;refine hK _ _ ?_;clear hK K) | (refine wpAny_ready (rs:=[12]) ?_ (by simp) ?_;(focus (decide +kernel));refine AllReady.cons rfl (fun K hK => ?_) AllReady.nil;go_simp;refine hK _ _ ?_;clear hK K) | (refine wpAny_ready (rs:=[14]) ?_ (by simp) ?_;(focus (decide +kernel));refine AllReady.cons rfl (fun K hK => ?_) AllReady.nil;go_simp;refine hK _ _ ?_;clear hK K) | (refine wpAny_ready (rs:=[15]) ?_ (by simp) ?_;(focus (decide +kernel));refine AllReady.cons rfl (fun K hK => ?_) AllReady.nil;go_simp;refine hK _ _ ?_;clear hK K))
end Go.Proofs.Ytcdlnhfgehhkcaa
