/- part of the proof -/
import Derived.Test.YtcdlnhfgehhkcaaQ05
import Derived.WalkSmall
import Derived.Defers
import Derived.Recover
set_option linter.unusedVariables false
set_option linter.unusedSimpArgs false
set_option linter.unusedSectionVars false
namespace Go.Proofs.Ytcdlnhfgehhkcaa
open Go.RowKit Go.Lib
open Un (kd nm ar size sizes depth depths)
namespace Un
mutual
def within : Int → Ty → Bool
 | n,.mk _ _ al => decide (0 < n) && withins (n - 1) al
def withins : Int → List Ty → Bool
 | _,[] => true
 | n,a :: r => within n a && withins n r
end
theorem withins_all (n : Int) : ∀ l,withins n l = l.all (within n)
 | [] => by rw [withins];rfl
 | a :: r => by rw [withins,withins_all n r];rfl
theorem within_eq (n : Int) (t : Ty) : within n t = (decide (0 < n) && (ar t).all (within (n - 1))):=by cases t;rw [within,withins_all];rfl
def unsolved (t : Ty) : Bool:=(kd t == 0 && nm t == 0) && (ar t).isEmpty
mutual
def over (n : Int) : Ty → Bool
 | .mk k i al => if k = 9 then (decide (0 ≤ i) && decide (i < n)) && al.isEmpty else (decide (1 ≤ k) && decide (k < 9)) && overs n al
def overs (n : Int) : List Ty → Bool
 | [] => true
 | a :: r => over n a && overs n r
end
theorem overs_all (n : Int) : ∀ l,overs n l = l.all (over n)
 | [] => by rw [overs];rfl
 | a :: r => by rw [overs,overs_all n r];rfl
theorem over_eq (n : Int) (t : Ty) : over n t = if kd t = 9 then (decide (0 ≤ nm t) && decide (nm t < n)) && (ar t).isEmpty else (decide (1 ≤ kd t) && decide (kd t < 9)) && (ar t).all (over n):=by cases t;rw [over,overs_all];rfl
def element (n : Int) (t : Ty) : Bool:=within 8 t && over n t
end Un
open Un (within unsolved over element)
theorem isunsolved_any (a : Ty) (cs : List Value) (w : World) (N : Nat → Prop) (h : TyV w N a cs) : Calls Try.prog 61 #[.agg cs.toArray] w (LookP (unsolved a) w):=by
 obtain ⟨p,c,rfl,ha⟩:=h.shape
 have hlm:=ha.len
 unfold maxLen at hlm
 have hz : (ar a).isEmpty = (((ar a).length : Int) == 0):=by rw [Bool.eq_iff_iff];simp
 have hu : unsolved a = ((kd a == 0 && nm a == 0) && (((ar a).length : Int) == 0)):=by unfold unsolved;rw [hz]
 obtain ⟨U,hU⟩ : ∃ U,U = unsolved a:=⟨_,rfl⟩
 rw [← hU] at hu ⊢
 have HU:=hid hu
 clear h ha hz hu hU
 cases e1 : (kd a == 0) with
 | false =>
  have HE : Hid (U = false):=hid (by rw [HU.out,e1];rfl)
  go_enter Try.func61,Try.ntmps61
  go_wp2_with fail
  go_ret
  exact ⟨by rw [HE.out];rfl,(Fr.refl _ _).alloc _⟩
 | true =>
  cases e2 : (nm a == 0) with
  | false =>
   have HE : Hid (U = false):=hid (by rw [HU.out,e1,e2];rfl)
   go_enter Try.func61,Try.ntmps61
   go_wp2_with fail
   go_ret
   exact ⟨by rw [HE.out];rfl,(Fr.refl _ _).alloc _⟩
  | true =>
   have HE : Hid (U = (((ar a).length : Int) == 0)):=hid (by rw [HU.out,e1,e2];rfl)
   go_enter Try.func61,Try.ntmps61
   go_wp2_with fail
   go_ret
   exact ⟨by rw [HE.out];rfl,(Fr.refl _ _).alloc _⟩
theorem enters_within1 : Enters 86:=fun _ _ => by kernel_rfl
theorem enters_over1 : Enters 76:=fun _ _ => by kernel_rfl
theorem within1_any (n : Int) (N : Nat → Prop) (B : Nat) (a : Ty) (cs : List Value) (w : World) (hn : 0 < n) (hn8 : n ≤ 8) (hB : Blk w B 3 #[.int .i64 n]) (h : TyV w N a cs)
  (hW : ∀ (cs : List Value) (w : World),TyV w N a cs → Calls Try.prog 65 #[.int .i64 (n - 1),.agg cs.toArray] w (LookP (within (n - 1) a) w)) :
  Calls Try.prog 86 #[.agg cs.toArray,.pointer (some ⟨B,0,none⟩)] w (LookP (!within (n - 1) a) w):=by
 have HW:=hid hW
 have HT:=hid h
 obtain ⟨p,c,rfl,_⟩:=h.shape
 have b0 : w.cell? ⟨B,0,none⟩ = some (.int .i64 n):=hB.cell 0
 have bl : B < w.heap.size:=hB.lt
 clear h hW hB
 go_enter Try.func86,Try.ntmps86
 go_wp2_with fail
 have hf0 : Fr [] w (w.alloc (.cells #[.int .i64 (kd a),.int .i64 (nm a),.slice p (ar a).length c] 24)):=(Fr.refl _ _).alloc _
 refine (HW.out _ _ (HT.out.keep0 hf0)).mono ?_
 rintro e w2 ⟨rfl,hf2⟩
 have HF2:=hid (hf0.trans hf2)
 clear hf0 hf2
 go_wp2_with fail
 go_ret
 exact ⟨rfl,HF2.out⟩
set_option maxRecDepth 100000 in
set_option maxHeartbeats 1600000 in
theorem within_any (N : Nat → Prop) : ∀ (m : Nat) (t : Ty),size t ≤ m → ∀ (n : Int),0 ≤ n → n ≤ 8 → ∀ (cs : List Value) (w : World),TyV w N t cs → Calls Try.prog 65 #[.int .i64 n,.agg cs.toArray] w (LookP (within n t) w):=by
 intro m
 induction m with
 | zero => intro t h;exact absurd (Un.size_pos t) (by omega)
 | succ m ih =>
  intro t hm n hn hn8 cs w h
  obtain ⟨R,hR⟩ : ∃ R,R = within n t:=⟨_,rfl⟩
  have hE:=Un.within_eq n t
  rw [← hR] at hE ⊢
  have HE:=hid hE
  have HT:=hid h
  obtain ⟨p,c,rfl,ha⟩:=h.shape
  obtain ⟨w1,hw1⟩ : ∃ w1,w1 = (w.alloc (.cells #[.int .i64 n] 3)).alloc (.cells #[.int .i64 (kd t),.int .i64 (nm t),.slice p (ar t).length c] 24):=⟨_,rfl⟩
  have HF0 : Hid (Fr [] w w1):=hid (by rw [hw1];exact ((Fr.refl _ _).alloc _).alloc _)
  have HB0 : Hid (Blk w1 w.heap.size 3 #[.int .i64 n]):=hid (by rw [hw1];exact (Blk.new _ _ _).alloc _)
  by_cases h0 : 0 < n
  ·have e1 : decide (0 < n) = true:=by simpa using h0
   have HE2 : Hid (R = (ar t).all (within (n - 1))):=hid (by rw [hE,e1];rfl)
   have HC : Hid (Calls Try.prog 77 #[.slice p (ar t).length c,.func (.func 86) #[] #[.pointer (some ⟨w.heap.size,0,none⟩)]] w1 (LookP (!(ar t).all (within (n - 1))) w1)):=by
    have h1:=containsfunc_any 86 #[.pointer (some ⟨w.heap.size,0,none⟩)] N (fun a => !within (n - 1) a) enters_within1 (ar t) w1
     (fun a ha' cs wr hf htv => by
      rw [two_args]
      exact within1_any n N w.heap.size a cs wr h0 hn8 (HB0.out.keep hf (by simp)) htv (fun cs w h => ih a (by have:=size_ar ha';omega) (n - 1) (by omega) (by omega) cs w h)) _ (ha.keep0 HF0.out)
    rw [any_not] at h1
    exact hid h1
   clear h ha ih hE hR h0 HE
   go_enter Try.func65,Try.ntmps65
   go_wp2_with fail
   rw [← hw1]
   clear hw1
   refine HC.out.mono ?_
   rintro e w2 ⟨rfl,hf2⟩
   have HF2:=hid (HF0.out.trans hf2)
   clear hf2
   go_wp2_with fail
   go_ret
   exact ⟨by rw [HE2.out];simp,HF2.out⟩
  ·have e1 : decide (0 < n) = false:=by simpa using h0
   have HE2 : Hid (R = false):=hid (by rw [hE,e1];rfl)
   clear h ha ih hE hR h0 HE
   go_enter Try.func65,Try.ntmps65
   go_wp2_with fail
   go_ret
   exact ⟨by rw [HE2.out];rfl,by rw [← hw1];exact HF0.out⟩
theorem over1_any (s : List Ty) (N : Nat → Prop) (B : Nat) (p : Option Addr) (c : Nat) (a : Ty) (cs : List Value) (w : World) (hB : Blk w B 22 #[.slice p s.length c]) (h : TyV w N a cs)
  (hW : ∀ (cs : List Value) (w : World),TyV w N a cs → Calls Try.prog 54 #[.slice p s.length c,.agg cs.toArray] w (LookP (over s.length a) w)) :
  Calls Try.prog 76 #[.agg cs.toArray,.pointer (some ⟨B,0,none⟩)] w (LookP (!over s.length a) w):=by
 have HW:=hid hW
 have HT:=hid h
 obtain ⟨p1,c1,rfl,_⟩:=h.shape
 have b0 : w.cell? ⟨B,0,none⟩ = some (.slice p s.length c):=hB.cell 0
 have bl : B < w.heap.size:=hB.lt
 clear h hW hB
 go_enter Try.func76,Try.ntmps76
 go_wp2_with fail
 have hf0 : Fr [] w (w.alloc (.cells #[.int .i64 (kd a),.int .i64 (nm a),.slice p1 (ar a).length c1] 24)):=(Fr.refl _ _).alloc _
 refine (HW.out _ _ (HT.out.keep0 hf0)).mono ?_
 rintro e w2 ⟨rfl,hf2⟩
 have HF2:=hid (hf0.trans hf2)
 clear hf0 hf2
 go_wp2_with fail
 go_ret
 exact ⟨rfl,HF2.out⟩
set_option maxRecDepth 100000 in
set_option maxHeartbeats 1600000 in
theorem over_any (N : Nat → Prop) (s : List Ty) (hsm : s.length ≤ 1000000) (ps : Option Addr) (cv : Nat) : ∀ (m : Nat) (t : Ty),size t ≤ m → ∀ (cs : List Value) (w : World),TyV w N t cs → Calls Try.prog 54 #[.slice ps s.length cv,.agg cs.toArray] w (LookP (over s.length t) w):=by
 intro m
 induction m with
 | zero => intro t h;exact absurd (Un.size_pos t) (by omega)
 | succ m ih =>
  intro t hm cs w h
  obtain ⟨R,hR⟩ : ∃ R,R = over s.length t:=⟨_,rfl⟩
  have hE:=Un.over_eq s.length t
  rw [← hR] at hE ⊢
  have HT:=hid h
  obtain ⟨p,c,rfl,ha⟩:=h.shape
  have hlm:=ha.len
  unfold maxLen at hlm
  obtain ⟨w1,hw1⟩ : ∃ w1,w1 = (w.alloc (.cells #[.slice ps s.length cv] 22)).alloc (.cells #[.int .i64 (kd t),.int .i64 (nm t),.slice p (ar t).length c] 24):=⟨_,rfl⟩
  have HF0 : Hid (Fr [] w w1):=hid (by rw [hw1];exact ((Fr.refl _ _).alloc _).alloc _)
  have HB0 : Hid (Blk w1 w.heap.size 22 #[.slice ps s.length cv]):=hid (by rw [hw1];exact (Blk.new _ _ _).alloc _)
  by_cases h9 : kd t = 9
  ·have e1 : (kd t == 9) = true:=by simp [h9]
   rw [if_pos h9] at hE
   have hz : (ar t).isEmpty = (((ar t).length : Int) == 0):=by rw [Bool.eq_iff_iff];simp
   rw [hz] at hE
   have HE:=hid hE
   clear hE hz h ha ih hR h9
   cases e2 : decide (0 ≤ nm t) with
   | false =>
    have HE2 : Hid (R = false):=hid (by rw [HE.out,e2];rfl)
    go_enter Try.func54,Try.ntmps54
    go_wp2_with fail
    go_ret
    exact ⟨by rw [HE2.out];rfl,by rw [← hw1];exact HF0.out⟩
   | true =>
    cases e3 : decide (nm t < s.length) with
    | false =>
     have HE2 : Hid (R = false):=hid (by rw [HE.out,e2,e3];rfl)
     go_enter Try.func54,Try.ntmps54
     go_wp2_with fail
     go_ret
     exact ⟨by rw [HE2.out];rfl,by rw [← hw1];exact HF0.out⟩
    | true =>
     have HE2 : Hid (R = (((ar t).length : Int) == 0)):=hid (by rw [HE.out,e2,e3];rfl)
     go_enter Try.func54,Try.ntmps54
     go_wp2_with fail
     go_ret
     exact ⟨by rw [HE2.out];rfl,by rw [← hw1];exact HF0.out⟩
  ·have e1 : (kd t == 9) = false:=by simp [h9]
   rw [if_neg h9] at hE
   have HE:=hid hE
   cases e2 : decide (1 ≤ kd t) with
   | false =>
    have HE2 : Hid (R = false):=hid (by rw [HE.out,e2];rfl)
    clear hE h ha ih hR h9
    go_enter Try.func54,Try.ntmps54
    go_wp2_with fail
    go_ret
    exact ⟨by rw [HE2.out];rfl,by rw [← hw1];exact HF0.out⟩
   | true =>
    cases e3 : decide (kd t < 9) with
    | false =>
     have HE2 : Hid (R = false):=hid (by rw [HE.out,e2,e3];rfl)
     clear hE h ha ih hR h9
     go_enter Try.func54,Try.ntmps54
     go_wp2_with fail
     go_ret
     exact ⟨by rw [HE2.out];rfl,by rw [← hw1];exact HF0.out⟩
    | true =>
     have HE2 : Hid (R = (ar t).all (over s.length)):=hid (by rw [HE.out,e2,e3];rfl)
     have HC : Hid (Calls Try.prog 77 #[.slice p (ar t).length c,.func (.func 76) #[] #[.pointer (some ⟨w.heap.size,0,none⟩)]] w1 (LookP (!(ar t).all (over s.length)) w1)):=by
      have h1:=containsfunc_any 76 #[.pointer (some ⟨w.heap.size,0,none⟩)] N (fun a => !over s.length a) enters_over1 (ar t) w1
       (fun a ha' cs wr hf htv => by
        rw [two_args]
        exact over1_any s N w.heap.size ps cv a cs wr (HB0.out.keep hf (by simp)) htv (fun cs w h => ih a (by have:=size_ar ha';omega) cs w h)) _ (ha.keep0 HF0.out)
      rw [any_not] at h1
      exact hid h1
     clear hE h ha ih hR h9
     go_enter Try.func54,Try.ntmps54
     go_wp2_with fail
     rw [← hw1]
     clear hw1
     refine HC.out.mono ?_
     rintro e w2 ⟨rfl,hf2⟩
     have HF2:=hid (HF0.out.trans hf2)
     clear hf2
     go_wp2_with fail
     go_ret
     exact ⟨by rw [HE2.out];simp,HF2.out⟩
theorem element_any (N : Nat → Prop) (s : List Ty) (hsm : s.length ≤ 1000000) (ps : Option Addr) (cv : Nat) (t : Ty) (cs : List Value) (w : World) (h : TyV w N t cs) : Calls Try.prog 40 #[.slice ps s.length cv,.agg cs.toArray] w (LookP (element s.length t) w):=by
 have HT:=hid h
 obtain ⟨p,c,rfl,ha⟩:=h.shape
 obtain ⟨R,hR⟩ : ∃ R,R = element s.length t:=⟨_,rfl⟩
 rw [← hR]
 have HR:=hid hR
 obtain ⟨w1,hw1⟩ : ∃ w1,w1 = w.alloc (.cells #[.int .i64 (kd t),.int .i64 (nm t),.slice p (ar t).length c] 24):=⟨_,rfl⟩
 have HF0 : Hid (Fr [] w w1):=hid (by rw [hw1];exact (Fr.refl _ _).alloc _)
 have HB0 : Hid (Blk w1 w.heap.size 24 #[.int .i64 (kd t),.int .i64 (nm t),.slice p (ar t).length c]):=hid (by rw [hw1];exact Blk.new _ _ _)
 clear h ha hR
 go_enter Try.func40,Try.ntmps40
 go_wp2_with fail
 rw [← hw1]
 clear hw1
 refine (within_any N (size t) t (Nat.le_refl _) 8 (by omega) (by omega) _ w1 (HT.out.keep0 HF0.out)).mono ?_
 rintro e w2 ⟨rfl,hf2⟩
 have HF2:=hid (HF0.out.trans hf2)
 have HB2:=hid (HB0.out.keep hf2 (by simp))
 clear hf2
 cases e1 : within 8 t with
 | false =>
  have HE : Hid (R = false):=hid (by rw [HR.out];unfold element;rw [e1];rfl)
  clear e1
  go_wp2_with fail
  go_ret
  exact ⟨by rw [HE.out];rfl,HF2.out⟩
 | true =>
  have HE : Hid (R = over s.length t):=hid (by rw [HR.out];unfold element;rw [e1];rfl)
  have c0 : w2.cell? ⟨w.heap.size,0,none⟩ = some (.int .i64 (kd t)):=HB2.out.cell 0
  have c1 : w2.cell? ⟨w.heap.size,1,none⟩ = some (.int .i64 (nm t)):=HB2.out.cell 1
  have c2 : w2.cell? ⟨w.heap.size,2,none⟩ = some (.slice p (ar t).length c):=HB2.out.cell 2
  have cl : w.heap.size < w2.heap.size:=HB2.out.lt
  clear e1
  go_wp2_with fail
  refine (over_any N s hsm ps cv (size t) t (Nat.le_refl _) _ w2 (HT.out.keep0 HF2.out)).mono ?_
  rintro e w3 ⟨rfl,hf3⟩
  have HF3:=hid (HF2.out.trans hf3)
  clear hf3 c0 c1 c2 cl
  go_wp2_with fail
  go_ret
  exact ⟨by rw [HE.out];rfl,HF3.out⟩
open Go.RowKit Go.Lib
open Un (kd nm ar size sizes depth depths)
def qInt (n : Int) : Q:=.int n .nil
theorem ln_qInt (n : Int) : (qInt n).ln = 1:=rfl
def IntsV (w : World) (N : Nat → Prop) (l : List Int) (v : Value) : Prop:=InN w N (.sl 3 1 l.length (rowsQ qInt l) .nil) [v]
theorem rowsQ_int {w : World} {N : Nat → Prop} : ∀ {l : List Int} {xs : List Value},InN w N (rowsQ qInt l) xs → xs = l.map (Value.int .i64)
 | [],xs,h => by rw [rowsQ,InN] at h;exact h
 | a :: r,xs,h => by
  rw [rowsQ] at h
  change InN w N (.int a (rowsQ qInt r)) xs at h
  rw [InN] at h
  obtain ⟨c,rfl,h⟩:=h
  rw [rowsQ_int h];rfl
theorem inn_ints {w : World} {N : Nat → Prop} : ∀ (l : List Int),InN w N (rowsQ qInt l) (l.map (Value.int .i64))
 | [] => by rw [rowsQ,InN];rfl
 | a :: r => by
  rw [rowsQ]
  change InN w N (.int a (rowsQ qInt r)) _
  rw [InN]
  exact ⟨_,rfl,inn_ints r⟩
theorem IntsV.shape {w : World} {N : Nat → Prop} {l : List Int} {v : Value} (h : IntsV w N l v) : ∃ p c,v = .slice p l.length c:=by
 rcases InN.slice h with ⟨p,c,rfl,h0⟩ | ⟨b,o,cap,xs,rfl,_⟩
 ·exact ⟨p,c,by rw [h0]⟩
 ·exact ⟨_,_,rfl⟩
theorem IntsV.len {w : World} {N : Nat → Prop} {l : List Int} {v : Value} (h : IntsV w N l v) : l.length ≤ maxLen:=InN.slLen h
def IntsAt (w : World) (N : Nat → Prop) (l : List Int) (b o : Nat) : Prop:=N b ∧ b < w.heap.size ∧ ∀ i,i < l.length → w.cell? ⟨b,o + i,none⟩ = (l[i]?).map (Value.int .i64)
theorem IntsV.cases {w : World} {N : Nat → Prop} {l : List Int} {v : Value} (h : IntsV w N l v) :
  (l = [] ∧ ∃ p c,v = .slice p 0 c) ∨ (0 < l.length ∧ ∃ b o cap,v = .slice (some ⟨b,o,none⟩) l.length cap ∧ l.length ≤ cap ∧ cap ≤ maxLen ∧ IntsAt w N l b o):=by
 rcases InN.slice h with ⟨p,c,rfl,h0⟩ | ⟨b,o,cap,xs,rfl,h1,h2,h3,h4,h5,h6,h7,h8⟩
 ·exact .inl ⟨List.eq_nil_of_length_eq_zero h0,p,c,rfl⟩
 ·exact .inr ⟨h1,b,o,cap,rfl,h2,h3,h4,h5,fun i hi => by rw [h7 i (by omega),rowsQ_int h8,List.getElem?_map]⟩
theorem IntsAt.el {w wr : World} {N : Nat → Prop} {l : List Int} {b o : Nat} (h : IntsAt w N l b o) {X : List Nat} (hf : Fr X w wr) (hX : ∀ k ∈ X,¬ N k) {i : Nat} {n : Int} (hn : l[i]? = some n) :
  b < wr.heap.size ∧ wr.cell? ⟨b,o + i,none⟩ = some (.int .i64 n):=by
 obtain ⟨hN,hb,hc⟩:=h
 have hi : i < l.length:=by
  rcases Nat.lt_or_ge i l.length with h | h
  ·exact h
  ·rw [List.getElem?_eq_none h] at hn;cases hn
 refine ⟨Nat.lt_of_lt_of_le hb hf.size,?_⟩
 rw [World.cell?_of_block (w:=w) (hf.block b hb (fun hx => hX b hx hN)),hc i hi,hn];rfl
theorem enters_deep : Enters 64:=fun _ _ => by kernel_rfl
theorem toodeep_any (n : Int) (w : World) : Calls Try.prog 64 #[.int .i64 n] w fun e w' => e = .returned (.bool (decide (8 < n))) ∧ w = w':=by
 go_enter Try.func64,Try.ntmps64
 go_wp2_with fail
 go_ret
 exact ⟨rfl,rfl⟩
set_option maxHeartbeats 1600000 in
theorem indexdeep_any (l : List Int) (v : Value) (w : World) (N : Nat → Prop) (h : IntsV w N l v) :
  Calls Try.prog 85 #[v,.func (.func 64) #[] #[]] w (IdxP (l.any fun n => decide (8 < n)) w):=by
 have hE' : ∀ (args : Array Value) (w : World),(callFunc 64 args).run Try.prog w = .ok (.enter 64 args) w:=enters_deep
 have hlm:=h.len
 unfold maxLen at hlm
 rcases h.cases with ⟨rfl,p,c,rfl⟩ | ⟨hn,b,o,cap,rfl,hc,hm,hat⟩
 ·clear h
  simp only [List.length_nil] at hlm ⊢
  go_enter Try.func85,Try.ntmps85
  go_wp2_with fail
  go_loopw [8] (fun v wr => v = .int .i64 0 ∧ wr = w) (fun v _ => 0)
  case atStart => exact ⟨rfl,rfl⟩
  case round =>
   obtain ⟨rfl,rfl⟩:=hrel
   go_wp2_with fail
   go_ret
   exact ⟨_,rfl,rfl,Fr.refl _ _⟩
 ·have HA:=hid hat
  unfold maxLen at hm
  clear hat h
  go_enter Try.func85,Try.ntmps85
  go_wp2_with fail
  go_loopw [8] (fun v wr => ∃ i : Nat,v = .int .i64 i ∧ i ≤ l.length ∧ wr = w ∧ Hid (∀ j,j < i → ∀ t,l[j]? = some t → decide (8 < t) = false)) (fun v _ => l.length - (RowKit.intOf v).toNat)
  case atStart => exact ⟨0,rfl,by omega,rfl,hid (fun j hj => by omega)⟩
  case round =>
   obtain ⟨i,rfl,hi,rfl,HG⟩:=hrel
   by_cases hlt : i < l.length
   ·have hd2 : decide ((i : Int) < (l.length : Int)) = true:=by simp;omega
    have hd3 : decide (i < l.length) = true:=by simpa using hlt
    obtain ⟨hb,g0⟩:=HA.out.el (Fr.refl [] wr) (by simp) (List.getElem?_eq_getElem hlt)
    obtain ⟨a,ha⟩ : ∃ a,a = l[i]:=⟨_,rfl⟩
    have HMA : Hid (l[i]? = some a):=hid (by rw [ha];exact List.getElem?_eq_getElem _)
    rw [← ha] at g0
    clear ha
    go_wp2_with fail
    refine (toodeep_any a _).mono ?_
    rintro e w2 ⟨rfl,rfl⟩
    clear g0
    cases hgd : decide (8 < a) with
    | true =>
     have hall : (l.any fun n => decide (8 < n)) = true:=by
      rw [List.any_eq_true]
      exact ⟨a,List.mem_of_getElem? HMA.out,hgd⟩
     have HAL:=hid hall
     have hp : decide (0 ≤ (i : Int)) = true:=by simp
     have HP:=hid hp
     clear hgd hall hp
     go_wp2_with fail
     go_ret
     exact ⟨_,rfl,by rw [HAL.out];exact HP.out,Fr.refl _ _⟩
    | false =>
     have HB:=hid hgd
     clear hgd
     go_wp2_with fail
     go_roundw
     case rel => exact ⟨i + 1,by go_num,by omega,(by first | rfl | trivial),hid (fun j hj t ht => by
      by_cases hj' : j < i
      ·exact HG.out j hj' t ht
      ·obtain rfl : j = i:=by omega
       rw [HMA.out] at ht
       cases ht
       exact HB.out)⟩
     case measure => simp [RowKit.intOf];omega
   ·have hd2 : decide ((i : Int) < (l.length : Int)) = false:=by simp;omega
    have hd3 : decide (i < l.length) = false:=by simpa using hlt
    have hall : (l.any fun n => decide (8 < n)) = false:=by
     rw [List.any_eq_false]
     intro t ht
     obtain ⟨j,hj,rfl⟩:=List.getElem_of_mem ht
     have:=HG.out j (by omega) _ (List.getElem?_eq_getElem hj)
     simpa using this
    have HAL:=hid hall
    clear hall
    go_wp2_with fail
    go_ret
    exact ⟨_,rfl,by rw [HAL.out];rfl,Fr.refl _ _⟩
theorem containsdeep_any (l : List Int) (v : Value) (w : World) (N : Nat → Prop) (h : IntsV w N l v) :
  Calls Try.prog 63 #[v,.func (.func 64) #[] #[]] w (LookP (l.any fun n => decide (8 < n)) w):=by
 have HC:=hid (indexdeep_any l v w N h)
 obtain ⟨p,c,rfl⟩:=h.shape
 clear h
 go_enter Try.func63,Try.ntmps63
 go_wp2_with fail
 refine HC.out.mono ?_
 rintro e w2 ⟨n,rfl,hn,hf⟩
 have HN:=hid hn
 have HFR:=hid hf
 clear hn hf
 go_wp2_with fail
 go_ret
 exact ⟨by rw [← HN.out];rfl,HFR.out⟩
def failE (c : Int) : Ending:=.panicked [{ v:=.iface 64 (.int .i64 c),recovered:=false }]
theorem refuse_no (c : Int) (w : World) : Calls Try.prog 38 #[.bool false,.int .i64 c] w fun e w' => e = .returned (.tuple #[]) ∧ w = w':=by
 go_enter Try.func38,Try.ntmps38
 go_wp2_with fail
 go_end0
 exact ⟨rfl,rfl⟩
theorem refuse_yes (c : Int) (w : World) : Calls Try.prog 38 #[.bool true,.int .i64 c] w fun e w' => e = failE c ∧ w = w':=by
 go_enter Try.func38,Try.ntmps38
 go_wp2_with fail
 exact ⟨rfl,rfl,rfl⟩
set_option maxHeartbeats 1600000 in
theorem variable_any (n : Int) (w : World) : Calls Try.prog 87 #[.int .i64 n] w fun e w' => e = .returned (.agg #[.int .i64 9,.int .i64 n,.slice none 0 0]) ∧ Fr [] w w':=by
 go_enter Try.func87,Try.ntmps87
 go_wp2_with fail
 exact bodyPost_ret (v:=.agg #[.int .i64 9,.int .i64 n,.slice none 0 0]) (by simp [results,Try.results87,go_sem]) rfl ⟨rfl,(Fr.refl _ _).alloc _⟩
theorem clip_any (p : Option Addr) (n c : Nat) (w : World) (hn : n ≤ c) (hc : c ≤ maxLen) : Calls Try.prog 70 #[.slice p n c] w fun e w' => e = .returned (.slice p n n) ∧ w = w':=by
 unfold maxLen at hc
 have h1 : decide ((n : Int) ≤ (c : Int)) = true:=by simp;omega
 go_enter Try.func70,Try.ntmps70
 go_wp2_with fail
 go_ret
 exact ⟨rfl,rfl⟩
end Go.Proofs.Ytcdlnhfgehhkcaa
