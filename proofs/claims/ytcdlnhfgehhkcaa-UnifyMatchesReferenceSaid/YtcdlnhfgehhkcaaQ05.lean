/- part of the proof -/
import Derived.Test.YtcdlnhfgehhkcaaQ04
import Derived.Test.YtcdlnhfgehhkcaaRows
import Derived.ProofKit
import Derived.OpenShut
import Derived.ChangeArms
import Derived.ChangeSlices
import Derived.Carry
set_option linter.unusedVariables false
set_option linter.unusedSimpArgs false
set_option linter.unusedSectionVars false
namespace Go.Proofs.Ytcdlnhfgehhkcaa
open Go.RowKit Go.Lib
open Un (kd nm ar size sizes acc accs fits valid)
set_option maxRecDepth 100000 in
set_option maxHeartbeats 3200000 in
theorem accepts_any (ds : List Int) (p : Int) (N N' : Nat → Prop) (b : Nat) (dv : Value) : ∀ (m : Nat) (t : Ty),size t ≤ m → ∀ (n : Int),0 ≤ n → n ≤ 8 → AccAt ds p n N N' b dv t:=by
 intro m
 induction m with
 | zero => intro t h;exact absurd (Un.size_pos t) (by omega)
 | succ m ih =>
  intro t hm n hn hn8 cs w hsc h
  have IH : Hid (∀ a ∈ ar t,0 ≤ n - 1 → AccAt ds p (n - 1) N N' b dv a):=hid fun a ha h1 => ih a (by have:=size_ar ha;omega) (n - 1) h1 (by omega)
  have HSC:=hid hsc
  have HT:=hid h
  obtain ⟨pt,ct,rfl,hat⟩:=h.shape
  have hlm:=hat.len
  unfold maxLen at hlm
  obtain ⟨k,i,al⟩:=t
  simp only [kd,nm,ar] at IH HT hat hlm ⊢
  obtain ⟨w1,hw1⟩ : ∃ w1,w1 = w.alloc (.cells #[.int .i64 k,.int .i64 i,.slice pt al.length ct] 24):=⟨_,rfl⟩
  have HF0 : Hid (Fr [] w w1):=hid (by rw [hw1];exact (Fr.refl _ _).alloc _)
  have HB0 : Hid (Blk w1 w.heap.size 24 #[.int .i64 k,.int .i64 i,.slice pt al.length ct]):=hid (by rw [hw1];exact Blk.new _ _ _)
  obtain ⟨A,hAcc⟩ : ∃ A,A = acc ds p n (.mk k i al):=⟨_,rfl⟩
  have HACC:=hid hAcc
  rw [← hAcc]
  have s0 : w.cell? ⟨b,0,none⟩ = some dv:=hsc.blk.cell 0
  have s1 : w.cell? ⟨b,1,none⟩ = some (.int .i64 p):=hsc.blk.cell 1
  have sl : b < w.heap.size:=hsc.blk.lt
  clear hAcc hat h ih hm
  by_cases hn0 : n = 0
  ·subst hn0
   have hA : A = false:=by rw [HACC.out,acc,if_pos rfl]
   subst hA
   clear hsc
   go_enter Try.func57,Try.ntmps57
   go_wp2_with fail
   go_ret
   exact ⟨rfl,by rw [← hw1];exact HF0.out⟩
  have en : (n == 0) = false:=by simp [hn0]
  have HN0:=hid hn0
  by_cases hleaf : k = 1 ∨ k = 6
  ·have hA : A = (decide (i = 0) && al.isEmpty):=by
    rw [HACC.out,acc,if_neg hn0,if_pos hleaf]
   have hfin : ∀ e1 e2 : Bool,(i == 0) = e1 → ((al.length : Int) == 0) = e2 → A = (e1 && e2):=by
    intro e1 e2 h1 h2
    rw [hA,← h1,← h2]
    congr 1
    rw [Bool.eq_iff_iff]
    simp
   have HFIN:=hid hfin
   clear hA hfin hn0 hsc
   cases e1 : (i == 0) with
   | false =>
    have HE : Hid (A = false):=hid (by rw [HFIN.out _ _ e1 rfl];rfl)
    rcases hleaf with rfl | rfl
    all_goals
     go_enter Try.func57,Try.ntmps57
     go_wp2_with fail
     go_ret
     exact ⟨by rw [HE.out];rfl,by rw [← hw1];exact HF0.out⟩
   | true =>
    have HE : Hid (A = ((al.length : Int) == 0)):=hid (by rw [HFIN.out _ _ e1 rfl];rfl)
    rcases hleaf with rfl | rfl
    all_goals
     go_enter Try.func57,Try.ntmps57
     go_wp2_with fail
     go_ret
     exact ⟨by rw [HE.out];rfl,by rw [← hw1];exact HF0.out⟩
  by_cases h5 : k = 5
  ·subst h5
   have hA : A = ((decide (0 ≤ i) && decide (i < p)) && al.isEmpty):=by
    rw [HACC.out,acc,if_neg hn0,if_neg hleaf,if_pos rfl]
   have hz : al.isEmpty = ((al.length : Int) == 0):=by rw [Bool.eq_iff_iff];simp
   rw [hz] at hA
   clear hn0 hleaf hsc hz
   cases e1 : decide (0 ≤ i) with
   | false =>
    have HE : Hid (A = false):=hid (by rw [hA,e1];rfl)
    clear hA
    go_enter Try.func57,Try.ntmps57
    go_wp2_with fail
    go_quiet (fail)
    go_wp2_with fail
    go_ret
    exact ⟨by rw [HE.out];rfl,by rw [← hw1];first | exact HF0.out.drewN _ | exact HF0.out.drew | exact HF0.out⟩
   | true =>
    cases e2 : decide (i < p) with
    | false =>
     have HE : Hid (A = false):=hid (by rw [hA,e1,e2];rfl)
     clear hA
     go_enter Try.func57,Try.ntmps57
     go_wp2_with fail
     go_quiet (fail)
     go_wp2_with fail
     go_ret
     exact ⟨by rw [HE.out];rfl,by rw [← hw1];first | exact HF0.out.drewN _ | exact HF0.out.drew | exact HF0.out⟩
    | true =>
     have HE : Hid (A = ((al.length : Int) == 0)):=hid (by rw [hA,e1,e2];rfl)
     clear hA
     go_enter Try.func57,Try.ntmps57
     go_wp2_with fail
     go_quiet (fail)
     go_wp2_with fail
     go_ret
     exact ⟨by rw [HE.out];rfl,by rw [← hw1];first | exact HF0.out.drewN _ | exact HF0.out.drew | exact HF0.out⟩
  have e5 : (k == 5) = false:=by simp [h5]
  by_cases h2 : k = 2
  ·subst h2
   have hA : A = ((decide (0 ≤ i) && decide (i < ds.length)) && (decide ((al.length : Int) = ds.getD i.toNat 0) && accs ds p 2 n al)):=by
    rw [HACC.out,acc,if_neg hn0,if_neg hleaf,if_neg h5,if_pos rfl]
   clear hleaf h5
   obtain ⟨pd,cd,rfl⟩:=hsc.datas.shape
   have hdm : ds.length ≤ 9223372036854775807:=by have:=InN.slLen hsc.datas;unfold maxLen at this;omega
   cases e1 : decide (0 ≤ i) with
   | false =>
    have HE : Hid (A = false):=hid (by rw [hA,e1];rfl)
    clear hA hsc hn0
    go_enter Try.func57,Try.ntmps57
    go_wp2_with fail
    go_quiet (fail)
    go_wp2_with fail
    go_ret
    exact ⟨by rw [HE.out];rfl,by rw [← hw1];first | exact HF0.out.drewN _ | exact HF0.out.drew | exact HF0.out⟩
   | true =>
    cases e2 : decide (i < (ds.length : Int)) with
    | false =>
     have HE : Hid (A = false):=hid (by rw [hA,e1,e2];rfl)
     clear hA hsc hn0
     go_enter Try.func57,Try.ntmps57
     go_wp2_with fail
     go_quiet (fail)
     go_wp2_with fail
     go_ret
     exact ⟨by rw [HE.out];rfl,by rw [← hw1];first | exact HF0.out.drewN _ | exact HF0.out.drew | exact HF0.out⟩
    | true =>
     obtain ⟨j,rfl⟩ : ∃ j : Nat,i = j:=⟨i.toNat,by simp at e1;omega⟩
     have hj : j < ds.length:=by simp at e2;omega
     obtain ⟨bd,od,capd,hpd,g2,gl⟩:=hsc.datas.el hj
     simp only [Value.slice.injEq] at hpd
     obtain ⟨rfl,_,rfl⟩:=hpd
     have hget : ds.getD (j : Int).toNat 0 = ds[j]:=by simp [List.getD_eq_getElem?_getD,List.getElem?_eq_getElem hj]
     have HE : Hid (A = (decide ((al.length : Int) = ds[j]) && accs ds p 2 n al)):=hid (by rw [hA,e1,e2,hget];rfl)
     have e3 : decide (j < ds.length) = true:=by simpa using hj
     obtain ⟨dn,hdn⟩ : ∃ dn,dn = ds[j]:=⟨_,rfl⟩
     rw [← hdn] at g2 HE
     have HA1 : Hid (0 < n):=hid (by omega)
     clear hA hsc hget hdn hn0
     go_enter Try.func57,Try.ntmps57
     go_wp2_with fail
     rw [← hw1]
     clear hw1
     have c0 : w1.cell? ⟨w.heap.size,0,none⟩ = some (.int .i64 2):=HB0.out.cell 0
     have c1 : w1.cell? ⟨w.heap.size,1,none⟩ = some (.int .i64 j):=HB0.out.cell 1
     have c2 : w1.cell? ⟨w.heap.size,2,none⟩ = some (.slice pt al.length ct):=HB0.out.cell 2
     have cl : w.heap.size < w1.heap.size:=HB0.out.lt
     have d0 : w1.cell? ⟨b,0,none⟩ = some (.slice (some ⟨bd,od,none⟩) ds.length cd):=(HF0.out.cell sl (by simp) 0).trans s0
     have dl : b < w1.heap.size:=Nat.lt_of_lt_of_le sl HF0.out.size
     have x2 : w1.cell? ⟨bd,od + j * 5 + 2,none⟩ = some (.int .i64 dn):=(HF0.out.cell gl (by simp) _).trans g2
     have xl : bd < w1.heap.size:=Nat.lt_of_lt_of_le gl HF0.out.size
     clear s0 s1 sl g2 gl
     go_still_tail 26,(by kernel_rfl)
     change wpList _ _ _ _ _ w1.drew
     have HF1 : Hid (Fr [] w w1.drew):=hid HF0.out.drew
     clear c0 c1 c2 cl d0 dl x2 xl HB0 HF0
     generalize w1.drew = w2 at HF1
     go_wp2_with fail
     refine (acceptsargs_any ds p n dn N N' b _ (.mk 2 j al) _ w2 HA1.out hn8 (HSC.out.keep HF1.out) (HT.out.keep0 HF1.out) (fun a ha => IH.out a ha (by have:=HA1.out;omega))).mono ?_
     rintro e w3 ⟨rfl,hf3⟩
     have HF3:=hid (HF1.out.trans hf3)
     clear hf3
     go_wp2_with fail
     go_ret
     exact ⟨by rw [HE.out];rfl,HF3.out⟩
  have e2 : (k == 2) = false:=by simp [h2]
  by_cases h3 : k = 3 ∨ k = 4 ∨ k = 7 ∨ k = 8
  ·have hA : A = (decide (i = 0) && (decide ((al.length : Int) = 1) && accs ds p k n al)):=by
    rw [HACC.out,acc,if_neg hn0,if_neg hleaf,if_neg h5,if_neg h2,if_pos h3]
   have HA1 : Hid (0 < n):=hid (by omega)
   by_cases hi : i = 0
   ·subst hi
    have HE : Hid (A = (decide ((al.length : Int) = 1) && accs ds p k n al)):=hid (by rw [hA];simp)
    have HC:=hid (acceptsargs_any ds p n 1 N N' b dv (.mk k 0 al) _ w1 HA1.out hn8 (HSC.out.keep HF0.out) (HT.out.keep0 HF0.out) (fun a ha => IH.out a ha (by have:=HA1.out;omega)))
    clear hA hleaf h5 h2 hn0 hsc e5 e2
    simp only [kd,nm,ar] at HC
    rcases h3 with rfl | rfl | rfl | rfl
    all_goals
     go_enter Try.func57,Try.ntmps57
     go_wp2_with fail
     rw [← hw1]
     clear hw1
     refine HC.out.mono ?_
     rintro e w2 ⟨rfl,hf2⟩
     have HF2:=hid (HF0.out.trans hf2)
     clear hf2
     go_wp2_with fail
     go_ret
     exact ⟨by rw [HE.out];rfl,HF2.out⟩
   ·have ei : (i == 0) = false:=by simp [hi]
    have HE : Hid (A = false):=hid (by rw [hA];simp [hi])
    clear hA hleaf h5 h2 hn0 hsc e5 e2 hi
    rcases h3 with rfl | rfl | rfl | rfl
    all_goals
     go_enter Try.func57,Try.ntmps57
     go_wp2_with fail
     go_ret
     exact ⟨by rw [HE.out];rfl,by rw [← hw1];exact HF0.out⟩
  ·have HE : Hid (A = false):=hid (by rw [HACC.out,acc,if_neg hn0,if_neg hleaf,if_neg h5,if_neg h2,if_neg h3])
   have e1 : (k == 1) = false:=by simp;omega
   have e3 : (k == 3) = false:=by simp;omega
   have e4 : (k == 4) = false:=by simp;omega
   have e6 : (k == 6) = false:=by simp;omega
   have e7 : (k == 7) = false:=by simp;omega
   have e8 : (k == 8) = false:=by simp;omega
   clear hleaf h5 h2 h3 hn0 hsc
   go_enter Try.func57,Try.ntmps57
   go_wp2_with fail
   go_ret
   exact ⟨by rw [HE.out];rfl,by rw [← hw1];exact HF0.out⟩
def ProgV (w : World) (N : Nat → Prop) (ds : List Int) (cs : List Value) : Prop:=
 ∃ p0 n0 c0 p1 n1 c1 dv p3 n3 c3 p4 n4 c4 p5 n5 c5 p6 n6 c6 m,cs = [.slice p0 n0 c0,.slice p1 n1 c1,dv,.slice p3 n3 c3,.slice p4 n4 c4,.slice p5 n5 c5,.slice p6 n6 c6,.int .i64 m] ∧ DatasV w N ds dv
theorem ProgV.keep0 {w w' : World} {N : Nat → Prop} {ds : List Int} {cs : List Value} (h : ProgV w N ds cs) (hf : Fr [] w w') : ProgV w' N ds cs:=by
 obtain ⟨p0,n0,c0,p1,n1,c1,dv,p3,n3,c3,p4,n4,c4,p5,n5,c5,p6,n6,c6,m,e,h⟩:=h
 exact ⟨p0,n0,c0,p1,n1,c1,dv,p3,n3,c3,p4,n4,c4,p5,n5,c5,p6,n6,c6,m,e,InN.keep0 h hf⟩
set_option maxRecDepth 100000 in
set_option maxHeartbeats 3200000 in
theorem valid_any (ds : List Int) (p : Int) (N N' : Nat → Prop) (ps cs : List Value) (t : Ty) (w : World) (hp : ProgV w N' ds ps) (h : TyV w N t cs) :
  Calls Try.prog 21 #[.agg ps.toArray,.int .i64 p,.agg cs.toArray] w (LookP (valid ds p t) w):=by
 obtain ⟨p0,n0,c0,p1,n1,c1,dv,p3,n3,c3,p4,n4,c4,p5,n5,c5,p6,n6,c6,m,rfl,hd⟩:=hp
 have HD:=hid hd
 have HT:=hid h
 obtain ⟨pd,cd,rfl⟩:=hd.shape
 obtain ⟨pt,ct,rfl,hat⟩:=h.shape
 obtain ⟨V,hV⟩ : ∃ V,V = valid ds p t:=⟨_,rfl⟩
 rw [← hV]
 have HV:=hid hV
 obtain ⟨w1,hw1⟩ : ∃ w1,w1 = ((w.alloc (.cells #[.slice p0 n0 c0,.slice p1 n1 c1,.slice pd ds.length cd,.slice p3 n3 c3,.slice p4 n4 c4,.slice p5 n5 c5,.slice p6 n6 c6,.int .i64 m] 32)).alloc (.cells #[.int .i64 (kd t),.int .i64 (nm t),.slice pt (ar t).length ct] 24)).alloc (.cells #[.slice pd ds.length cd,.int .i64 p] 83):=⟨_,rfl⟩
 have HF0 : Hid (Fr [] w w1):=hid (by rw [hw1];exact (((Fr.refl _ _).alloc _).alloc _).alloc _)
 have HB0 : Hid (Blk w1 (w.heap.size + 1 + 1) 83 #[.slice pd ds.length cd,.int .i64 p]):=hid (by rw [hw1];exact Blk.new_at (by simp))
 clear hd h hat hV
 have HSC : Hid (ScV w1 N' (w.heap.size + 1 + 1) ds p (.slice pd ds.length cd)):=hid ⟨HB0.out,InN.keep0 HD.out HF0.out⟩
 have HC:=hid (accepts_any ds p N N' (w.heap.size + 1 + 1) _ (size t) t (Nat.le_refl _) 8 (by omega) (by omega) _ w1 HSC.out (HT.out.keep0 HF0.out))
 cases e1 : decide (0 ≤ p) with
 | false =>
  have HE : Hid (V = false):=hid (by rw [HV.out];unfold valid;rw [e1];rfl)
  go_enter Try.func21,Try.ntmps21
  go_wp2_with fail
  go_ret
  exact ⟨by rw [HE.out];rfl,by rw [← hw1];exact HF0.out⟩
 | true =>
  cases e2 : decide (p ≤ 4) with
  | false =>
   have HE : Hid (V = false):=hid (by rw [HV.out];unfold valid;rw [e1,e2];rfl)
   go_enter Try.func21,Try.ntmps21
   go_wp2_with fail
   go_ret
   exact ⟨by rw [HE.out];rfl,by rw [← hw1];exact HF0.out⟩
  | true =>
   have HE : Hid (V = acc ds p 8 t):=hid (by rw [HV.out];unfold valid;rw [e1,e2];rfl)
   go_enter Try.func21,Try.ntmps21
   go_wp2_with fail
   rw [← hw1]
   clear hw1
   refine HC.out.mono ?_
   rintro e w2 ⟨rfl,hf2⟩
   have HF2:=hid (HF0.out.trans hf2)
   clear hf2
   go_wp2_with fail
   go_ret
   exact ⟨by rw [HE.out];rfl,HF2.out⟩
open Go.RowKit
open Un (kd nm ar)
section
variable {H : Type} {enc : TypeId × Value → H} {P : Program} {w : World} {base : Nat} {sp : Nat → Bool} {held : Bool}
theorem cells_ofN {a : Addr} {s : Nat} {c : List Value} (h : w.cells? base a s = some c) : c.length = s ∧ ∀ j,j < s → w.cell? (a.add j) = c[j]?:=by
 unfold World.cells? at h
 split at h
 ·have key : ∀ (l : List Nat) (c : List Value),l.mapM (fun i => w.cell? (a.add i)) = some c → c.length = l.length ∧ ∀ j,j < l.length → (l[j]?).bind (fun i => w.cell? (a.add i)) = c[j]?:=by
   intro l
   induction l with
   | nil => intro c h;simp at h;subst h;simp
   | cons x l ih =>
    intro c h
    rw [List.mapM_cons] at h
    cases hx : w.cell? (a.add x) with
    | none => simp [hx] at h
    | some v =>
     cases hl : l.mapM (fun i => w.cell? (a.add i)) with
     | none => simp [hx,hl] at h
     | some r =>
      simp [hx,hl] at h
      subst h
      obtain ⟨h1,h2⟩:=ih r hl
      refine ⟨by simp [h1],fun j hj => ?_⟩
      cases j with
      | zero => simp [hx]
      | succ j => simpa using h2 j (by simpa using hj)
  obtain ⟨h1,h2⟩:=key _ _ h
  simp only [List.length_range] at h1 h2
  refine ⟨h1,fun j hj => ?_⟩
  have:=h2 j hj
  rwa [List.getElem?_range hj] at this
 ·cases h
theorem add_addN (a : Addr) (m n : Nat) : (a.add m).add n = a.add (m + n):=by
 unfold Addr.add
 by_cases h1 : m = 0
 ·subst h1;simp
 ·by_cases h2 : n = 0
  ·subst h2;simp [h1]
  ·rw [if_neg h1,if_neg h2,if_neg (by omega)]
   simp [Nat.add_assoc]
theorem spot_of_cell {a : Addr} {v : Value} (h : w.cell? a = some v) : a.spot = none ∧ a.block < w.heap.size:=by
 unfold World.cell? at h
 split at h
 ·rename_i c _ _ hb
  split at h
  ·cases h
  ·rename_i hs
   exact ⟨by simpa using hs,(Array.getElem?_eq_some_iff.1 hb).1⟩
 ·cases h
theorem sl_ofN {α : Type} {f : α → Q} {E s : Nat} {t e : TypeId} (hs0 : 0 < s) (ht : P.underlying t = some (.slice e)) (hs : P.cellsOf e = s) {fuel : Nat} {cs : List Value} {x : DataW H × List MemPlace}
  (h : DataW.trod enc P w base sp held fuel t cs = some x) (ih : ∀ n,n < fuel → ∀ c y,DataW.trod enc P w base sp held n e c = some y → ∃ a,InN w (fun _ => True) (f a) c) :
  ∃ l : List α,InN w (fun _ => True) (.sl E s l.length (rowsQ f l) .nil) cs:=by
 rcases DataW.trod_slice ht h with ⟨rfl,_⟩ | ⟨a,len,cap,elems,rest,n,rfl,rfl,_,_,hl,hm,hlen,hel,_⟩
 ·exact ⟨[],InN.slNil _ _⟩
 ·rw [hs] at hel
  have key : ∀ k,k ≤ len → ∃ (l : List α) (xs : List Value),l.length = k ∧ xs.length = k * s ∧ (∀ j,j < k * s → w.cell? (a.add j) = xs[j]?) ∧ InN w (fun _ => True) (rowsQ f l) xs:=by
   intro k
   induction k with
   | zero => intro _;exact ⟨[],[],rfl,by simp,fun j hj => by simp at hj,by rw [rowsQ];exact InN.mk_nil _ _⟩
   | succ k ihk =>
    intro hk
    obtain ⟨l,xs,h1,h2,h3,h4⟩:=ihk (by omega)
    have hE:=hel k (by omega)
    have hsome : elems[k]? = some (elems[k]'(by omega)):=List.getElem?_eq_getElem _
    rw [hsome] at hE
    simp only [Option.bind_eq_some_iff] at hE
    obtain ⟨c,hc,hy⟩:=hE
    obtain ⟨hc1,hc2⟩:=cells_ofN hc
    obtain ⟨b,hb⟩:=ih n (by omega) c _ hy
    refine ⟨l ++ [b],xs ++ c,by simp [h1],by simp [h2,hc1,Nat.succ_mul],fun j hj => ?_,by rw [rowsQ_snoc];exact InN.app h4 hb⟩
    by_cases hj' : j < k * s
    ·rw [h3 j hj',List.getElem?_append_left (by omega)]
    ·rw [Nat.succ_mul] at hj
     rw [List.getElem?_append_right (by omega),h2]
     have:=hc2 (j - k * s) (by omega)
     rw [add_addN] at this
     rw [← this]
     congr 2
     omega
  obtain ⟨l,xs,h1,h2,h3,h4⟩:=key len (Nat.le_refl _)
  refine ⟨l,?_⟩
  subst h1
  rcases Nat.eq_zero_or_pos l.length with h0 | h0
  ·have:=List.eq_nil_of_length_eq_zero h0
   subst this
   exact InN.slNil _ _
  ·have hps : 0 < l.length * s:=Nat.mul_pos h0 hs0
   have hc0:=h3 0 hps
   rw [List.getElem?_eq_getElem (by omega)] at hc0
   obtain ⟨hsp,hbl⟩:=spot_of_cell hc0
   obtain ⟨b,o,q⟩:=a
   have e0 : (⟨b,o,q⟩ : Addr).add 0 = ⟨b,o,q⟩:=by unfold Addr.add;simp
   rw [e0] at hsp hbl
   simp only at hsp hbl
   subst hsp
   rw [InN]
   refine ⟨_,_,rfl,.inr ⟨b,o,cap,xs,rfl,h0,hl,hm,trivial,hbl,h2,fun j hj => ?_,h4⟩,InN.mk_nil _ _⟩
   have h5:=h3 j hj
   have e : (⟨b,o,none⟩ : Addr).add j = ⟨b,o + j,none⟩:=by
    unfold Addr.add
    split
    ·rename_i h;subst h;rfl
    ·rfl
   rwa [e] at h5
theorem int_ofN {t : TypeId} (ht : P.underlying t = some (.int .i64)) {fuel : Nat} {cs : List Value} {x : DataW H × List MemPlace} (h : DataW.trod enc P w base sp held fuel t cs = some x) : ∃ n : Int,cs = [.int .i64 n] ∧ (Lit.int .i64 n).wf = true:=by
 obtain ⟨n,rfl,_,hw⟩:=DataW.trod_int ht h
 exact ⟨n,rfl,hw⟩
theorem slice_ofN {t e : TypeId} (ht : P.underlying t = some (.slice e)) {fuel : Nat} {cs : List Value} {x : DataW H × List MemPlace} (h : DataW.trod enc P w base sp held fuel t cs = some x) : ∃ p n c,cs = [.slice p n c]:=by
 rcases DataW.trod_slice ht h with ⟨rfl,_⟩ | ⟨a,len,cap,elems,rest,n,rfl,rfl,_⟩
 ·exact ⟨_,_,_,rfl⟩
 ·exact ⟨_,_,_,rfl⟩
theorem cells_intN : Try.prog.cellsOf 3 = 1:=by kernel_rfl
theorem cells_tysN : Try.prog.cellsOf 22 = 1:=by kernel_rfl
theorem cells_tyN : Try.prog.cellsOf 24 = 3:=by kernel_rfl
theorem cells_dataN : Try.prog.cellsOf 61 = 5:=by kernel_rfl
theorem cells_progN : Try.prog.cellsOf 32 = 8:=by kernel_rfl
set_option maxRecDepth 100000 in
set_option maxHeartbeats 1600000 in
theorem ty_ofN : ∀ (M fuel : Nat),fuel < M → ∀ (cs : List Value) (y : DataW H × List MemPlace),DataW.trod enc Try.prog w base sp held fuel 24 cs = some y → ∃ t : Ty,TyV w (fun _ => True) t cs:=by
 intro M
 induction M with
 | zero => intro fuel hN;omega
 | succ M ih =>
  intro fuel hN cs y h
  obtain ⟨xs,n,rfl,_,hl,hlen,hf⟩:=DataW.trod_struct Try.underlying24 h
  match xs,hlen with
  | [y0,y1,y2],_ =>
   have h0 : DataW.trod enc Try.prog w base sp held n 3 ((cs.drop 0).take (Try.prog.cellsOf 3)) = some y0:=hf 0 _ rfl
   rw [cells_intN] at h0
   obtain ⟨k,k0,_⟩:=int_ofN Try.underlying3 h0
   have h1 : DataW.trod enc Try.prog w base sp held n 3 ((cs.drop 1).take (Try.prog.cellsOf 3)) = some y1:=hf 1 _ rfl
   rw [cells_intN] at h1
   obtain ⟨i,k1,_⟩:=int_ofN Try.underlying3 h1
   have h2 : DataW.trod enc Try.prog w base sp held n 22 ((cs.drop 2).take (Try.prog.cellsOf 22)) = some y2:=hf 2 _ rfl
   rw [cells_tysN] at h2
   obtain ⟨l,k2⟩:=sl_ofN (f:=qTy) (E:=24) (by decide) Try.underlying22 cells_tyN h2 (fun m hm c y hy => ih m (by omega) c y hy)
   have hl3 : cs.length = 3:=by rw [hl];exact cells_tyN
   match cs,hl3 with
   | [x0,x1,x2],_ =>
    simp at k0 k1
    subst k0 k1
    exact ⟨.mk k i l,TyV.mk (by unfold TysV;simpa using k2)⟩
set_option maxRecDepth 100000 in
set_option maxHeartbeats 1600000 in
theorem tys_ofN {fuel : Nat} {cs : List Value} {y : DataW H × List MemPlace} (h : DataW.trod enc Try.prog w base sp held fuel 22 cs = some y) : ∃ (l : List Ty) (v : Value),cs = [v] ∧ TysV w (fun _ => True) l v:=by
 obtain ⟨l,k⟩:=sl_ofN (f:=qTy) (E:=24) (by decide) Try.underlying22 cells_tyN h (fun m hm c y hy => ty_ofN (m + 1) m (by omega) c y hy)
 obtain ⟨p,n,c,rfl⟩:=slice_ofN Try.underlying22 h
 exact ⟨l,_,rfl,k⟩
set_option maxRecDepth 100000 in
set_option maxHeartbeats 1600000 in
theorem data_ofN {fuel : Nat} {cs : List Value} {y : DataW H × List MemPlace} (h : DataW.trod enc Try.prog w base sp held fuel 61 cs = some y) : ∃ p : Int,InN w (fun _ => True) (qData p) cs:=by
 obtain ⟨xs,n,rfl,_,hl,hlen,hf⟩:=DataW.trod_struct Try.underlying61 h
 have hl5 : cs.length = 5:=by rw [hl];exact cells_dataN
 match xs,hlen,cs,hl5 with
 | [y0,y1,y2,y3,y4],_,[x0,x1,x2,x3,x4],_ =>
  have h0 : DataW.trod enc Try.prog w base sp held n 9 (([x0,x1,x2,x3,x4].drop 0).take (Try.prog.cellsOf 9)) = some y0:=hf 0 _ rfl
  have h1 : DataW.trod enc Try.prog w base sp held n 3 (([x0,x1,x2,x3,x4].drop 1).take (Try.prog.cellsOf 3)) = some y1:=hf 1 _ rfl
  have h2 : DataW.trod enc Try.prog w base sp held n 3 (([x0,x1,x2,x3,x4].drop 2).take (Try.prog.cellsOf 3)) = some y2:=hf 2 _ rfl
  have h3 : DataW.trod enc Try.prog w base sp held n 59 (([x0,x1,x2,x3,x4].drop 3).take (Try.prog.cellsOf 59)) = some y3:=hf 3 _ rfl
  have h4 : DataW.trod enc Try.prog w base sp held n 3 (([x0,x1,x2,x3,x4].drop 4).take (Try.prog.cellsOf 3)) = some y4:=hf 4 _ rfl
  rw [show Try.prog.cellsOf 9 = 1 by kernel_rfl] at h0
  rw [cells_intN] at h1 h2 h4
  rw [show Try.prog.cellsOf 59 = 1 by kernel_rfl] at h3
  obtain ⟨s,k0,_⟩:=DataW.trod_string Try.underlying9 h0
  obtain ⟨a,k1,_⟩:=int_ofN Try.underlying3 h1
  obtain ⟨p,k2,_⟩:=int_ofN Try.underlying3 h2
  obtain ⟨q,m,c,k3⟩:=slice_ofN Try.underlying59 h3
  obtain ⟨d,k4,_⟩:=int_ofN Try.underlying3 h4
  simp at k0 k1 k2 k3 k4
  subst k0 k1 k2 k3 k4
  refine ⟨p,?_⟩
  unfold qData
  simp only [InN]
  exact ⟨_,_,rfl,rfl,_,_,rfl,rfl,_,rfl,_,_,rfl,rfl,_,_,rfl,rfl,rfl⟩
set_option maxRecDepth 100000 in
set_option maxHeartbeats 1600000 in
theorem prog_ofN {fuel : Nat} {cs : List Value} {y : DataW H × List MemPlace} (h : DataW.trod enc Try.prog w base sp held fuel 32 cs = some y) : ∃ ds : List Int,ProgV w (fun _ => True) ds cs:=by
 obtain ⟨xs,n,rfl,_,hl,hlen,hf⟩:=DataW.trod_struct Try.underlying32 h
 have hl8 : cs.length = 8:=by rw [hl];exact cells_progN
 match xs,hlen,cs,hl8 with
 | [y0,y1,y2,y3,y4,y5,y6,y7],_,[x0,x1,x2,x3,x4,x5,x6,x7],_ =>
  have h0 : DataW.trod enc Try.prog w base sp held n 25 (([x0,x1,x2,x3,x4,x5,x6,x7].drop 0).take (Try.prog.cellsOf 25)) = some y0:=hf 0 _ rfl
  have h1 : DataW.trod enc Try.prog w base sp held n 26 (([x0,x1,x2,x3,x4,x5,x6,x7].drop 1).take (Try.prog.cellsOf 26)) = some y1:=hf 1 _ rfl
  have h2 : DataW.trod enc Try.prog w base sp held n 27 (([x0,x1,x2,x3,x4,x5,x6,x7].drop 2).take (Try.prog.cellsOf 27)) = some y2:=hf 2 _ rfl
  have h3 : DataW.trod enc Try.prog w base sp held n 25 (([x0,x1,x2,x3,x4,x5,x6,x7].drop 3).take (Try.prog.cellsOf 25)) = some y3:=hf 3 _ rfl
  have h4 : DataW.trod enc Try.prog w base sp held n 28 (([x0,x1,x2,x3,x4,x5,x6,x7].drop 4).take (Try.prog.cellsOf 28)) = some y4:=hf 4 _ rfl
  have h5 : DataW.trod enc Try.prog w base sp held n 29 (([x0,x1,x2,x3,x4,x5,x6,x7].drop 5).take (Try.prog.cellsOf 29)) = some y5:=hf 5 _ rfl
  have h6 : DataW.trod enc Try.prog w base sp held n 30 (([x0,x1,x2,x3,x4,x5,x6,x7].drop 6).take (Try.prog.cellsOf 30)) = some y6:=hf 6 _ rfl
  have h7 : DataW.trod enc Try.prog w base sp held n 3 (([x0,x1,x2,x3,x4,x5,x6,x7].drop 7).take (Try.prog.cellsOf 3)) = some y7:=hf 7 _ rfl
  rw [show Try.prog.cellsOf 25 = 1 by kernel_rfl] at h0 h3
  rw [show Try.prog.cellsOf 26 = 1 by kernel_rfl] at h1
  rw [show Try.prog.cellsOf 27 = 1 by kernel_rfl] at h2
  rw [show Try.prog.cellsOf 28 = 1 by kernel_rfl] at h4
  rw [show Try.prog.cellsOf 29 = 1 by kernel_rfl] at h5
  rw [show Try.prog.cellsOf 30 = 1 by kernel_rfl] at h6
  rw [cells_intN] at h7
  obtain ⟨a0,b0,c0,k0⟩:=slice_ofN Try.underlying25 h0
  obtain ⟨a1,b1,c1,k1⟩:=slice_ofN Try.underlying26 h1
  obtain ⟨ds,kd2⟩:=sl_ofN (f:=qData) (E:=61) (by decide) Try.underlying27 cells_dataN h2 (fun m hm c y hy => data_ofN hy)
  obtain ⟨a2,b2,c2,k2⟩:=slice_ofN Try.underlying27 h2
  obtain ⟨a3,b3,c3,k3⟩:=slice_ofN Try.underlying25 h3
  obtain ⟨a4,b4,c4,k4⟩:=slice_ofN Try.underlying28 h4
  obtain ⟨a5,b5,c5,k5⟩:=slice_ofN Try.underlying29 h5
  obtain ⟨a6,b6,c6,k6⟩:=slice_ofN Try.underlying30 h6
  obtain ⟨m,k7,_⟩:=int_ofN Try.underlying3 h7
  simp at k0 k1 k3 k4 k5 k6 k7
  subst k0 k1 k3 k4 k5 k6 k7
  exact ⟨ds,_,_,_,_,_,_,_,_,_,_,_,_,_,_,_,_,_,_,_,_,rfl,by unfold DatasV;simpa using kd2⟩
end
theorem ownK : ownKnob Try.prog.godebug = none:=by kernel_rfl
theorem laidOutK : laidOutB Try.prog = true:=by kernel_rfl
theorem stays {H : Type} {enc : TypeId × Value → H} {t : TypeId} {W W' : World} {v : Value} {d : DataW H} {ps : List MemPlace} (hr : Try.prog.readableRec t = true) (hrow : t < Try.prog.types.size)
  (h : DataW.Trod enc Try.prog W 0 (fun _ => true) true t v d ps) (hb : Below W.heap.size W W') (hlt : ∀ x ∈ ps,x.block < W.heap.size) (sp : Nat → Bool) (hs : ∀ x ∈ ps,sp x.block = true) :
  DataW.Trod enc Try.prog W' 0 sp true t v d ps:=WideElems.Trod_stays laidOutK hr hrow h (fun x hx => hb.same (hlt x hx)) hs
set_option maxRecDepth 100000 in
theorem ty_arg {H : Type} {enc : TypeId × Value → H} {W : World} {b0 : Nat} {v : Value} {d : DataW H} {ps : List MemPlace} (hv : Value.okWide Try.prog W .any b0 24 v) (h : DataW.Trod enc Try.prog W 0 (fun _ => true) true 24 v d ps) :
  ∃ (t : Ty) (cs : List Value),v = .agg cs.toArray ∧ TyV W (fun _ => True) t cs:=by
 obtain ⟨cs,rfl,_⟩:=Go.WideShapes.okWide_struct Try.underlying24 hv
 obtain ⟨fuel,hf⟩:=h
 obtain ⟨t,ht⟩:=ty_ofN (fuel + 1) fuel (by omega) _ _ hf
 exact ⟨t,cs.toList,by simp,by simpa [Value.cells] using ht⟩
set_option maxRecDepth 100000 in
theorem tys_arg {H : Type} {enc : TypeId × Value → H} {W : World} {b0 : Nat} {v : Value} {d : DataW H} {ps : List MemPlace} (hv : Value.okWide Try.prog W .any b0 22 v) (h : DataW.Trod enc Try.prog W 0 (fun _ => true) true 22 v d ps) :
  ∃ l : List Ty,TysV W (fun _ => True) l v:=by
 obtain ⟨a,n,c,rfl⟩:=Go.WideShapes.okWide_slice Try.underlying22 hv
 obtain ⟨fuel,hf⟩:=h
 obtain ⟨l,v,hc,hl⟩:=tys_ofN hf
 simp [Value.cells] at hc
 subst hc
 exact ⟨l,hl⟩
set_option maxRecDepth 100000 in
theorem prog_arg {H : Type} {enc : TypeId × Value → H} {W : World} {b0 : Nat} {v : Value} {d : DataW H} {ps : List MemPlace} (hv : Value.okWide Try.prog W .any b0 32 v) (h : DataW.Trod enc Try.prog W 0 (fun _ => true) true 32 v d ps) :
  ∃ (ds : List Int) (cs : List Value),v = .agg cs.toArray ∧ ProgV W (fun _ => True) ds cs:=by
 obtain ⟨cs,rfl,_⟩:=Go.WideShapes.okWide_struct Try.underlying32 hv
 obtain ⟨fuel,hf⟩:=h
 obtain ⟨ds,hd⟩:=prog_ofN hf
 exact ⟨ds,cs.toList,by simp,by simpa [Value.cells] using hd⟩
section
open Go.WideShapes Go.ChangeShapes
variable {H : Type} {enc : TypeId × Value → H} {P : Program}
theorem post_of_belowK {f : Func} {s : ChangeSpec} {apart fresh handsOn again : Bool} {W W' : World} {args : Array Value} {v : Value} {ds gs : List (DataW H)} {before pa pv : List MemPlace}
  (hW : DataW.Whole enc P f.params.toList s.vars apart W args.toList ds gs before)
  (hres : ∀ (b : Nat) (sp : Nat → Bool) (hd : Bool),DataW.TrodAll enc P W' b sp hd f.resultTypes.toList (v.resultList f.resultTypes.size) (s.fn H (ds ++ gs)).results [])
  (hargs : ∀ sp : Nat → Bool,(∀ p ∈ before,sp p.block = true) → DataW.TrodAll enc P W' 0 sp true f.params.toList args.toList (s.fn H (ds ++ gs)).args pa)
  (hvars : ∀ sp : Nat → Bool,(∀ p ∈ before,sp p.block = true) → DataW.TrodVars enc P W' sp s.vars (s.fn H (ds ++ gs)).vars pv)
  (hps : before = pa ++ pv) (hb : Below W.heap.size W W')
  (hok : ∀ (j : Nat) (t : TypeId) (r : Value),f.resultTypes[j]? = some t → (v.resultList f.resultTypes.size)[j]? = some r → Value.okWide P W' .any 0 t r) :
  s.post enc P f apart fresh handsOn again W args v W':=by
 have hlt : ∀ p ∈ before,p.block < W.heap.size:=fun p hp => hW.lt p hp
 have hold : ∀ p ∈ before,(fun b => decide (b < W.heap.size)) p.block = true:=fun p hp => by simpa using hlt p hp
 refine ⟨ds,gs,before,[],pa,pv,hW,hres _ _ _,hargs _ hold,hvars _ hold,World.keptBut_mono (fun p hp => ⟨hp,?_⟩) (hb.frame (· ∈ before)),fun _ => ?_⟩
 ·rw [hps,List.mem_append] at hp
  exact Or.inr hp
 ·obtain ⟨_,_,_,_,_,hz,hn⟩:=hW
  refine ⟨hok,_,_,([] ++ pa) ++ pv,⟨[] ++ pa,pv,trodAll_append (hargs _ (fun _ _ => rfl)) (hres _ _ _),hvars _ (fun _ _ => rfl),rfl,?_,?_⟩,?_⟩
  ·intro b off hp
   have hin : MemPlace.cell b off ∈ before:=by rw [hps];simpa using hp
   rw [hb.frozen (hlt _ hin)]
   exact hz b off hin
  ·intro ha
   have:=hn ha
   rw [hps] at this
   simpa using this
  ·intro p hp _
   rw [hps]
   simpa using hp
end
end Go.Proofs.Ytcdlnhfgehhkcaa
