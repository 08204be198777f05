/-
  The walk of UnifyGeneral, where the contracts of Apply and Unify are known.
-/
import Derived.Test.YtkhbgdhgjbnhpaaU69
import Derived.Deep.DeepCutAuto
set_option linter.unusedVariables false
set_option linter.unusedSimpArgs false
set_option linter.unusedSectionVars false
namespace Go.Proofs.Ytkhbgdhgjbnhpaa
open Go.RowKit Go.Lib
open Un (kd nm ar size sizes over occ depth small same asg)

def AppC (u : List Ty) (n : Nat) (v : Value) : Prop := ∀ (x : Ty), over n x = true → size x ≤ 30 → ∀ (cs : List Value) (wx : World), TysV wx (fun _ => True) u v → TyV wx (fun _ => True) x cs → Calls Try.prog 19 #[v, .agg cs.toArray] wx (TypP (fun _ => True) (Un.ap (asg u) x) wx)
def UniC (s : List Ty) (a b : Ty) (v : Value) (r : Except Int (List Ty)) : Prop := ∀ (cs ds : List Value) (wx : World), TysV wx (fun _ => True) s v → TyV wx (fun _ => True) a cs → TyV wx (fun _ => True) b ds → Calls Try.prog 11 #[v, .agg cs.toArray, .agg ds.toArray] wx (UnifyP r wx)
set_option maxRecDepth 100000 in
set_option maxHeartbeats 32000000 in
theorem general_any (s u : List Ty) (a b : Ty) (vs vu : Value) (cs ds : List Value) (w : World) (hs : TysV w (fun _ => True) s vs) (hu : TysV w (fun _ => True) u vu) (ha : TyV w (fun _ => True) a cs) (hb : TyV w (fun _ => True) b ds)
    (happ : Un.groundB u = true → u.length = s.length → (∀ t ∈ u, size t ≤ 30) → u.length ≤ 8 → AppC u s.length vu)
    (huni : (∀ t ∈ s, size t ≤ 30) → s.length ≤ 8 → size a ≤ 30 → size b ≤ 30 → ∃ r, Un.UniR s.length s a b r ∧ ((∃ x ∈ s, kd x = 0 ∧ Un.unsolved x = false) → r = .error 1) ∧ UniC s a b vs r) :
    Calls Try.prog 5 #[vs, vu, .agg cs.toArray, .agg ds.toArray] w (LookP true w) := by
  obtain ⟨ps, ks, rfl⟩ := hs.shape
  obtain ⟨pu, ku, rfl⟩ := hu.shape
  obtain ⟨pa, ca, rfl, _⟩ := ha.shape
  obtain ⟨pb, cb, rfl, _⟩ := hb.shape
  have hls := hs.len
  have hlu := hu.len
  unfold maxLen at hls hlu
  have HS := Lib.hid hs
  have HU := Lib.hid hu
  have HA := Lib.hid ha
  have HB := Lib.hid hb
  have HAPP := Lib.hid happ
  have HUNI := Lib.hid huni
  obtain ⟨n, hn⟩ : ∃ n, n = s.length := ⟨_, rfl⟩
  obtain ⟨k, hk⟩ : ∃ k, k = u.length := ⟨_, rfl⟩
  rw [← hn] at hls HS HAPP HUNI ⊢
  rw [← hk] at hlu HU HAPP ⊢
  have HN := Lib.hid hn
  have HKL := Lib.hid hk
  clear hs hu ha hb happ huni hn hk
  go_enter Try.func5, Try.ntmps5
  go_wp2_with fail
  obtain ⟨w1, hw1⟩ : ∃ w1, w1 = (w.alloc (.cells #[.int .i64 (kd a), .int .i64 (nm a), .slice pa (ar a).length ca] 24)).alloc (.cells #[.int .i64 (kd b), .int .i64 (nm b), .slice pb (ar b).length cb] 24) := ⟨_, rfl⟩
  have HF1 : Hid (Fr [] w w1) := Lib.hid (by rw [hw1]; exact ((Fr.refl _ _).alloc _).alloc _)
  have HBA1 : Hid (Blk w1 w.heap.size 24 #[.int .i64 (kd a), .int .i64 (nm a), .slice pa (ar a).length ca]) := Lib.hid (by rw [hw1]; exact (Blk.new _ _ _).alloc _)
  have HBB1 : Hid (Blk w1 (w.heap.size + 1) 24 #[.int .i64 (kd b), .int .i64 (nm b), .slice pb (ar b).length cb]) := Lib.hid (by rw [hw1]; exact Blk.new_at (by simp))
  rw [← hw1]
  clear hw1
  refine (head_any w1).mono ?_
  rintro e w2 ⟨rfl, hf⟩
  have HF2 := Lib.hid (HF1.out.trans hf)
  have HBA2 := Lib.hid (HBA1.out.keep hf (by simp))
  have HBB2 := Lib.hid (HBB1.out.keep hf (by simp))
  clear hf
  have HK : Hid (∀ wx, Fr [] w2 wx → wx.cell? ⟨w.heap.size, 0, none⟩ = some (.int .i64 (kd a)) ∧ wx.cell? ⟨w.heap.size, 1, none⟩ = some (.int .i64 (nm a)) ∧ wx.cell? ⟨w.heap.size, 2, none⟩ = some (.slice pa (ar a).length ca) ∧ w.heap.size < wx.heap.size ∧ wx.cell? ⟨w.heap.size + 1, 0, none⟩ = some (.int .i64 (kd b)) ∧ wx.cell? ⟨w.heap.size + 1, 1, none⟩ = some (.int .i64 (nm b)) ∧ wx.cell? ⟨w.heap.size + 1, 2, none⟩ = some (.slice pb (ar b).length cb) ∧ w.heap.size + 1 < wx.heap.size) := Lib.hid (fun wx hf => by
    have h1 := HBA2.out.keep hf (by simp)
    have h2 := HBB2.out.keep hf (by simp)
    exact ⟨h1.cell 0, h1.cell 1, h1.cell 2, h1.lt, h2.cell 0, h2.cell 1, h2.cell 2, h2.lt⟩)
  have HA0 : Hid (∀ wx, Fr [] w2 wx → TyV wx (fun _ => True) a [.int .i64 (kd a), .int .i64 (nm a), .slice pa (ar a).length ca]) := Lib.hid (fun wx hf => HA.out.keep0 (HF2.out.trans hf))
  have HB0 : Hid (∀ wx, Fr [] w2 wx → TyV wx (fun _ => True) b [.int .i64 (kd b), .int .i64 (nm b), .slice pb (ar b).length cb]) := Lib.hid (fun wx hf => HB.out.keep0 (HF2.out.trans hf))
  have HS0 : Hid (∀ wx, Fr [] w2 wx → TysV wx (fun _ => True) s (.slice ps n ks)) := Lib.hid (fun wx hf => HS.out.keep0 (HF2.out.trans hf))
  have HU0 : Hid (∀ wx, Fr [] w2 wx → TysV wx (fun _ => True) u (.slice pu k ku)) := Lib.hid (fun wx hf => HU.out.keep0 (HF2.out.trans hf))
  have HX : Hid (Fr [] w2 w2) := Lib.hid (Fr.refl _ _)
  go_wp2_with fail
  refine (small_any _ s _ w2 (HS0.out _ HX.out)).mono ?_
  rintro e wn ⟨rfl, hf⟩
  have HX := Lib.hid (HX.out.trans hf)
  clear hf
  cases hss : small s with
  | false =>
    obtain ⟨x0, x1, x2, xl, x3, x4, x5, xm⟩ := HK.out wn HX.out
    go_wp2_with fail
    go_ret
    exact ⟨rfl, HF2.out.trans HX.out⟩
  | true =>
    have HSS := Lib.hid hss
    clear hss
    obtain ⟨x0, x1, x2, xl, x3, x4, x5, xm⟩ := HK.out wn HX.out
    go_wp2_with fail
    clear x0 x1 x2 xl x3 x4 x5 xm
    refine (small_any _ u _ wn (HU0.out _ HX.out)).mono ?_
    rintro e wn ⟨rfl, hf⟩
    have HX := Lib.hid (HX.out.trans hf)
    clear hf
    cases hsu : small u with
    | false =>
      obtain ⟨x0, x1, x2, xl, x3, x4, x5, xm⟩ := HK.out wn HX.out
      go_wp2_with fail
      go_ret
      exact ⟨rfl, HF2.out.trans HX.out⟩
    | true =>
      have HSU := Lib.hid hsu
      clear hsu
      obtain ⟨x0, x1, x2, xl, x3, x4, x5, xm⟩ := HK.out wn HX.out
      go_wp2_with fail
      obtain ⟨wm, hwm⟩ : ∃ x, x = wn.alloc (.cells #[.int .i64 (kd a), .int .i64 (nm a), .slice pa (ar a).length ca, .int .i64 (kd b), .int .i64 (nm b), .slice pb (ar b).length cb] 24) := ⟨_, rfl⟩
      have HFM : Hid (Fr [] wn wm) := Lib.hid (by rw [hwm]; exact (Fr.refl [] _).alloc _)
      have HX := Lib.hid (HX.out.trans HFM.out)
      have hlt : TysV wm (fun _ => True) [a, b] (.slice (some ⟨wn.heap.size, 0, none⟩) 2 2) := newTys (l := [a, b]) (by simp) trivial (by rw [hwm]; exact Blk.new _ _ _) (InN.app (HA0.out wm HX.out) (InN.app (cs := [.int .i64 (kd b), .int .i64 (nm b), .slice pb (ar b).length cb]) (ds := []) (HB0.out wm HX.out) (InN.mk_nil _ _)))
      rw [← hwm]
      clear hwm
      clear x0 x1 x2 xl x3 x4 x5 xm
      refine (small_any _ [a, b] _ wm hlt).mono ?_
      rintro e wn ⟨rfl, hf⟩
      have HX := Lib.hid (HX.out.trans hf)
      clear hf hlt HFM
      cases hsab : small [a, b] with
      | false =>
        obtain ⟨x0, x1, x2, xl, x3, x4, x5, xm⟩ := HK.out wn HX.out
        go_wp2_with fail
        go_ret
        exact ⟨rfl, HF2.out.trans HX.out⟩
      | true =>
        have HSA : Hid (size a ≤ 30) := Lib.hid ((Un.small_size hsab).1 a (by simp))
        have HSB : Hid (size b ≤ 30) := Lib.hid ((Un.small_size hsab).1 b (by simp))
        clear hsab
        obtain ⟨x0, x1, x2, xl, x3, x4, x5, xm⟩ := HK.out wn HX.out
        go_wp2_with fail
        obtain ⟨wm, hwm⟩ : ∃ x, x = wn.alloc (.cells #[.int .i64 (kd a), .int .i64 (nm a), .slice pa (ar a).length ca, .int .i64 (kd b), .int .i64 (nm b), .slice pb (ar b).length cb] 24) := ⟨_, rfl⟩
        have HFM : Hid (Fr [] wn wm) := Lib.hid (by rw [hwm]; exact (Fr.refl [] _).alloc _)
        have HX := Lib.hid (HX.out.trans HFM.out)
        have hlt : TysV wm (fun _ => True) [a, b] (.slice (some ⟨wn.heap.size, 0, none⟩) 2 2) := newTys (l := [a, b]) (by simp) trivial (by rw [hwm]; exact Blk.new _ _ _) (InN.app (HA0.out wm HX.out) (InN.app (cs := [.int .i64 (kd b), .int .i64 (nm b), .slice pb (ar b).length cb]) (ds := []) (HB0.out wm HX.out) (InN.mk_nil _ _)))
        rw [← hwm]
        clear hwm
        clear x0 x1 x2 xl x3 x4 x5 xm
        refine (light_any _ s [a, b] _ _ wm (HS0.out wm HX.out) hlt).mono ?_
        rintro e wn ⟨rfl, hf⟩
        have HX := Lib.hid (HX.out.trans hf)
        clear hf hlt HFM
        cases hli : Un.lightB s [a, b] with
        | false =>
          obtain ⟨x0, x1, x2, xl, x3, x4, x5, xm⟩ := HK.out wn HX.out
          go_wp2_with fail
          go_ret
          exact ⟨rfl, HF2.out.trans HX.out⟩
        | true =>
          clear hli
          by_cases hkn : k = n
          case neg =>
            have he1 : ((k : Int) != (n : Int)) = true := by simp; omega
            have he2 : (k != n) = true := by simpa using hkn
            obtain ⟨x0, x1, x2, xl, x3, x4, x5, xm⟩ := HK.out wn HX.out
            go_wp2_with fail
            go_ret
            exact ⟨rfl, HF2.out.trans HX.out⟩
          subst hkn
          have he1 : ((k : Int) != (k : Int)) = false := by simp
          have he2 : (k != k) = false := by simp
          obtain ⟨x0, x1, x2, xl, x3, x4, x5, xm⟩ := HK.out wn HX.out
          go_wp2_with fail
          clear x0 x1 x2 xl x3 x4 x5 xm
          have hsz : ∀ t ∈ u, size t ≤ 30 := fun t ht => (Un.small_size HSU.out).1 t ht
          have hsl : u.length ≤ 8 := (Un.small_size HSU.out).2
          have HSZ := Lib.hid hsz
          have HSL := Lib.hid hsl
          clear hsz hsl
          refine (ground_any _ u _ wn (HU0.out _ HX.out) (fun t ht => by have := HSZ.out t ht; omega)).mono ?_
          rintro e wn ⟨rfl, hf⟩
          have HX := Lib.hid (HX.out.trans hf)
          clear hf
          cases hgr : Un.groundB u with
          | false =>
            obtain ⟨x0, x1, x2, xl, x3, x4, x5, xm⟩ := HK.out wn HX.out
            go_wp2_with fail
            go_ret
            exact ⟨rfl, HF2.out.trans HX.out⟩
          | true =>
            have HGR := Lib.hid hgr
            clear hgr
            obtain ⟨x0, x1, x2, xl, x3, x4, x5, xm⟩ := HK.out wn HX.out
            go_wp2_with fail
            clear x0 x1 x2 xl x3 x4 x5 xm
            refine (inside_any _ k (size a) a (Nat.le_refl _) _ wn (HA0.out wn HX.out)).mono ?_
            rintro e wn ⟨rfl, hf⟩
            have HX := Lib.hid (HX.out.trans hf)
            clear hf
            cases hoa : over k a with
            | false =>
              obtain ⟨x0, x1, x2, xl, x3, x4, x5, xm⟩ := HK.out wn HX.out
              go_wp2_with fail
              go_ret
              exact ⟨rfl, HF2.out.trans HX.out⟩
            | true =>
              have HOA := Lib.hid hoa
              clear hoa
              obtain ⟨x0, x1, x2, xl, x3, x4, x5, xm⟩ := HK.out wn HX.out
              go_wp2_with fail
              clear x0 x1 x2 xl x3 x4 x5 xm
              refine (inside_any _ k (size b) b (Nat.le_refl _) _ wn (HB0.out wn HX.out)).mono ?_
              rintro e wn ⟨rfl, hf⟩
              have HX := Lib.hid (HX.out.trans hf)
              clear hf
              cases hob : over k b with
              | false =>
                obtain ⟨x0, x1, x2, xl, x3, x4, x5, xm⟩ := HK.out wn HX.out
                go_wp2_with fail
                go_ret
                exact ⟨rfl, HF2.out.trans HX.out⟩
              | true =>
                have HOB := Lib.hid hob
                clear hob
                obtain ⟨x0, x1, x2, xl, x3, x4, x5, xm⟩ := HK.out wn HX.out
                have HAC : Hid (AppC u k (.slice pu k ku)) := Lib.hid (HAPP.out HGR.out (by trivial) HSZ.out (by rw [HKL.out]; exact HSL.out))
                have HSZS : Hid (∀ t ∈ s, size t ≤ 30) := Lib.hid (fun t ht => (Un.small_size HSS.out).1 t ht)
                have HSLS : Hid (k ≤ 8) := Lib.hid (by rw [HKL.out]; exact HSL.out)
                have HSM : Hid (∀ (wx : World) (x y : Ty) (cs ds : List Value), TyV wx (fun _ => True) x cs → TyV wx (fun _ => True) y ds → Calls Try.prog 16 #[.agg cs.toArray, .agg ds.toArray] wx (LookP (same x y) wx)) := Lib.hid (fun wx x y cs ds h h' => rsame_any _ _ (size x) x (Nat.le_refl _) y cs ds wx h h')
                go_wp2_with fail
                obtain ⟨wA, hwA⟩ : ∃ x : World, x = wn := ⟨_, rfl⟩
                subst hwA
                clear x0 x1 x2 xl x3 x4 x5 xm
                have HXA := HX
                have HXL : Hid (Fr [] w2 wA) := HX
                go_loopw [10] (fun x wr => ∃ i : Nat, x = .int .i64 i ∧ i ≤ k ∧ Hid (∀ j, j < i → ∀ t, s[j]? = some t → kd t = 0 ∨ (over k t = true ∧ Un.ap (asg u) t = asg u j)) ∧ Hid (Fr [] w2 wr)) (fun x _ => k - (RowKit.intOf x).toNat)
                case atStart => exact ⟨0, rfl, Nat.zero_le _, Lib.hid (fun j hj => by omega), HXL⟩
                case round =>
                  obtain ⟨i, rfl, hi, HG, HFR⟩ := hrel
                  by_cases hlt : i < k
                  case pos =>
                    have hd2 : decide ((i : Int) < (k : Int)) = true := by simp; omega
                    have hd3 : decide (i < k) = true := by simpa using hlt
                    have hd4 : (i : Int) < (k : Int) := by omega
                    have hd5 : decide (0 ≤ (i : Int)) = true := by simp
                    obtain ⟨t, ht⟩ : ∃ t, s[i]? = some t := ⟨_, List.getElem?_eq_getElem (by rw [← HN.out]; exact hlt)⟩
                    obtain ⟨g, hg⟩ : ∃ g, u[i]? = some g := ⟨_, List.getElem?_eq_getElem (by rw [← HKL.out]; exact hlt)⟩
                    obtain ⟨bs, os, rfl, hat⟩ := HS.out.elem ht
                    obtain ⟨bu, ou, rfl, hau⟩ := HU.out.elem hg
                    obtain ⟨p1, c1, k1, hb1, g0, g1, g2⟩ := hat.el (Fr.refl [] w) (by simp) ht
                    obtain ⟨p2, c2, k2, hb2, v0, v1, v2⟩ := hau.el (Fr.refl [] w) (by simp) hg
                    have HKV : Hid (∀ wx, Fr [] w2 wx → wx.cell? ⟨bs, os + i * 3, none⟩ = some (.int .i64 (kd t)) ∧ wx.cell? ⟨bs, os + i * 3 + 1, none⟩ = some (.int .i64 (nm t)) ∧ wx.cell? ⟨bs, os + i * 3 + 2, none⟩ = some (.slice p1 (ar t).length c1) ∧ bs < wx.heap.size ∧ wx.cell? ⟨bu, ou + i * 3, none⟩ = some (.int .i64 (kd g)) ∧ wx.cell? ⟨bu, ou + i * 3 + 1, none⟩ = some (.int .i64 (nm g)) ∧ wx.cell? ⟨bu, ou + i * 3 + 2, none⟩ = some (.slice p2 (ar g).length c2) ∧ bu < wx.heap.size) := Lib.hid (fun wx hf => by
                      have hf := HF2.out.trans hf
                      exact ⟨(hf.cell hb1 (by simp) _).trans g0, (hf.cell hb1 (by simp) _).trans g1, (hf.cell hb1 (by simp) _).trans g2, Nat.lt_of_lt_of_le hb1 hf.size, (hf.cell hb2 (by simp) _).trans v0, (hf.cell hb2 (by simp) _).trans v1, (hf.cell hb2 (by simp) _).trans v2, Nat.lt_of_lt_of_le hb2 hf.size⟩)
                    have HTT : Hid (∀ wx, Fr [] w2 wx → TyV wx (fun _ => True) t [.int .i64 (kd t), .int .i64 (nm t), .slice p1 (ar t).length c1]) := Lib.hid (fun wx hf => k1.keep0 (HF2.out.trans hf))
                    have HGG : Hid (∀ wx, Fr [] w2 wx → TyV wx (fun _ => True) g [.int .i64 (kd g), .int .i64 (nm g), .slice p2 (ar g).length c2]) := Lib.hid (fun wx hf => k2.keep0 (HF2.out.trans hf))
                    obtain ⟨R1, hR1⟩ : ∃ R1, R1 = Un.ap (asg u) t := ⟨_, rfl⟩
                    have HR1 := Lib.hid hR1
                    have HAPX : Hid (over k t = true → ∀ wx, Fr [] w2 wx → Calls Try.prog 19 #[.slice (some ⟨bu, ou, none⟩) k ku, .agg #[.int .i64 (kd t), .int .i64 (nm t), .slice p1 (ar t).length c1]] wx (TypP (fun _ => True) R1 wx)) := Lib.hid (fun ho wx hf => by
                      rw [hR1]
                      exact HAC.out t ho (HSZS.out t (List.mem_of_getElem? ht)) _ wx (HU0.out wx hf) (HTT.out wx hf))
                    have HST := Lib.hid ht
                    have HUG := Lib.hid hg
                    clear hat hau ht hg k1 k2 hb1 hb2 g0 g1 g2 v0 v1 v2 hR1
                    have HM : Hid (Fr [] w2 wr.drew) := Lib.hid (HFR.out.trans ((Fr.refl [] wr).drew))
                    obtain ⟨z0, z1, z2, z3, z4, z5, z6, z7⟩ := HKV.out _ HM.out
                    go_wp2_with fail
                    go_cut [100] (fun sB wx => sB = .bool ((kd t != 0) && (!(over k t) || !(same R1 g))) ∧ Fr [] w2 wx)
                    case first =>
                      cases hk0 : (kd t != 0) with
                      | false =>
                        refine wp_region_any (by kernel_rfl) ?_
                        change wpAny _ _ _ _ _ _ _ (World.drew _)
                        all_goals (refine wpAny_take (i := 0) (v := .slice (some ⟨bs, os, none⟩) k ks) rfl ?_ ?_ ?_ (fun _ _ _ h => h) (Or.inl ⟨by kernel_rfl, ?_⟩) ?_; (focus (decide +kernel)); (focus (decide +kernel)); (focus (decide +kernel)); (focus (intro w; go_simp; try with_reducible rfl)))
                        all_goals (refine wpAny_take (i := 1) (v := .int .i64 i) rfl ?_ ?_ ?_ (fun _ _ _ h => h) (Or.inl ⟨by kernel_rfl, ?_⟩) ?_; (focus (decide +kernel)); (focus (decide +kernel)); (focus (decide +kernel)); (focus (intro w; go_simp; try with_reducible rfl)))
                        all_goals (refine wpAny_ready (rs := [2]) ?_ (by simp) ?_; (focus (decide +kernel)); refine AllReady.cons rfl (fun K hK => ?_) AllReady.nil <;> (go_simp; (refine hK _ _ ?_; clear hK K)))
                        all_goals (refine wpAny_ready (rs := [3]) ?_ (by simp) ?_; (focus (decide +kernel)); refine AllReady.cons rfl (fun K hK => ?_) AllReady.nil <;> (go_simp; (refine hK _ _ ?_; clear hK K)))
                        all_goals (refine wpAny_ready (rs := [4]) ?_ (by simp) ?_; (focus (decide +kernel)); refine AllReady.cons rfl (fun K hK => ?_) AllReady.nil <;> (go_simp; (refine hK _ _ ?_; clear hK K)))
                        all_goals (refine wpAny_ready (rs := [5]) ?_ (by simp) ?_; (focus (decide +kernel)); refine AllReady.cons rfl (fun K hK => ?_) AllReady.nil <;> (go_simp; (refine hK _ _ ?_; clear hK K)))
                        all_goals (refine wpAny_ready (rs := [6]) ?_ (by simp) ?_; (focus (decide +kernel)); refine AllReady.cons rfl (fun K hK => ?_) AllReady.nil <;> (go_simp; (refine hK _ _ ?_; clear hK K)))
                        all_goals (refine wpAny_take (i := 7) (v := undef) rfl ?_ ?_ ?_ (fun _ _ _ h => h) (Or.inr ⟨by kernel_rfl, rfl⟩) ?_; (focus (decide +kernel)); (focus (decide +kernel)); (focus (decide +kernel)))
                        all_goals (refine wpAny_take (i := 8) (v := undef) rfl ?_ ?_ ?_ (fun _ _ _ h => h) (Or.inr ⟨by kernel_rfl, rfl⟩) ?_; (focus (decide +kernel)); (focus (decide +kernel)); (focus (decide +kernel)))
                        all_goals (refine wpAny_take (i := 11) (v := undef) rfl ?_ ?_ ?_ (fun _ _ _ h => h) (Or.inr ⟨by kernel_rfl, rfl⟩) ?_; (focus (decide +kernel)); (focus (decide +kernel)); (focus (decide +kernel)))
                        all_goals (refine wpAny_take (i := 9) (v := undef) rfl ?_ ?_ ?_ (fun _ _ _ h => h) (Or.inr ⟨by kernel_rfl, rfl⟩) ?_; (focus (decide +kernel)); (focus (decide +kernel)); (focus (decide +kernel)))
                        all_goals (refine wpAny_take (i := 10) (v := undef) rfl ?_ ?_ ?_ (fun _ _ _ h => h) (Or.inr ⟨by kernel_rfl, rfl⟩) ?_; (focus (decide +kernel)); (focus (decide +kernel)); (focus (decide +kernel)))
                        all_goals (refine wpAny_take (i := 12) (v := undef) rfl ?_ ?_ ?_ (fun _ _ _ h => h) (Or.inr ⟨by kernel_rfl, rfl⟩) ?_; (focus (decide +kernel)); (focus (decide +kernel)); (focus (decide +kernel)))
                        all_goals (refine wpAny_ready (rs := [13]) ?_ (by simp) ?_; (focus (decide +kernel)); refine AllReady.cons rfl (fun K hK => ?_) AllReady.nil <;> (go_simp; (refine hK _ _ ?_; clear hK K)))
                        all_goals (refine wpAny_ready (rs := [14]) ?_ (by simp) ?_; (focus (decide +kernel)); refine AllReady.cons rfl (fun K hK => ?_) AllReady.nil <;> (go_simp; (refine hK _ _ ?_; clear hK K)))
                        all_goals (refine wpAny_ready (rs := [15]) ?_ (by simp) ?_; (focus (decide +kernel)); refine AllReady.cons rfl (fun K hK => ?_) AllReady.nil <;> (go_simp; (refine hK _ _ ?_; clear hK K)))
                        all_goals (refine wpAny_take (i := 16) (v := undef) rfl ?_ ?_ ?_ (fun _ _ _ h => h) (Or.inr ⟨by kernel_rfl, rfl⟩) ?_; (focus (decide +kernel)); (focus (decide +kernel)); (focus (decide +kernel)))
                        all_goals (refine wpAny_take (i := 17) (v := undef) rfl ?_ ?_ ?_ (fun _ _ _ h => h) (Or.inr ⟨by kernel_rfl, rfl⟩) ?_; (focus (decide +kernel)); (focus (decide +kernel)); (focus (decide +kernel)))
                        all_goals (refine wpAny_take (i := 18) (v := undef) rfl ?_ ?_ ?_ (fun _ _ _ h => h) (Or.inr ⟨by kernel_rfl, rfl⟩) ?_; (focus (decide +kernel)); (focus (decide +kernel)); (focus (decide +kernel)))
                        all_goals (refine wpAny_take (i := 22) (v := undef) rfl ?_ ?_ ?_ (fun _ _ _ h => h) (Or.inr ⟨by kernel_rfl, rfl⟩) ?_; (focus (decide +kernel)); (focus (decide +kernel)); (focus (decide +kernel)))
                        all_goals (refine wpAny_take (i := 23) (v := undef) rfl ?_ ?_ ?_ (fun _ _ _ h => h) (Or.inr ⟨by kernel_rfl, rfl⟩) ?_; (focus (decide +kernel)); (focus (decide +kernel)); (focus (decide +kernel)))
                        all_goals (refine wpAny_take (i := 19) (v := undef) rfl ?_ ?_ ?_ (fun _ _ _ h => h) (Or.inr ⟨by kernel_rfl, rfl⟩) ?_; (focus (decide +kernel)); (focus (decide +kernel)); (focus (decide +kernel)))
                        all_goals (refine wpAny_take (i := 24) (v := undef) rfl ?_ ?_ ?_ (fun _ _ _ h => h) (Or.inr ⟨by kernel_rfl, rfl⟩) ?_; (focus (decide +kernel)); (focus (decide +kernel)); (focus (decide +kernel)))
                        all_goals (refine wpAny_take (i := 20) (v := undef) rfl ?_ ?_ ?_ (fun _ _ _ h => h) (Or.inr ⟨by kernel_rfl, rfl⟩) ?_; (focus (decide +kernel)); (focus (decide +kernel)); (focus (decide +kernel)))
                        all_goals (refine wpAny_take (i := 25) (v := undef) rfl ?_ ?_ ?_ (fun _ _ _ h => h) (Or.inr ⟨by kernel_rfl, rfl⟩) ?_; (focus (decide +kernel)); (focus (decide +kernel)); (focus (decide +kernel)))
                        all_goals (refine wpAny_ready (rs := [21]) ?_ (by simp) ?_; (focus (decide +kernel)); refine AllReady.cons rfl (fun K hK => ?_) AllReady.nil <;> (go_simp; (refine hK _ _ ?_; clear hK K)))
                        all_goals (refine wpAny_ready (rs := [26]) ?_ (by simp) ?_; (focus (decide +kernel)); refine AllReady.cons rfl (fun K hK => ?_) AllReady.nil <;> (go_simp; (refine hK _ _ ?_; clear hK K)))
                        all_goals (refine wpAny_ready (rs := [27]) ?_ (by simp) ?_; (focus (decide +kernel)); refine AllReady.cons rfl (fun K hK => ?_) AllReady.nil <;> (go_simp; (refine hK _ _ ?_; clear hK K)))
                        all_goals (refine wpAny_ready (rs := [28]) ?_ (by simp) ?_; (focus (decide +kernel)); refine AllReady.cons rfl (fun K hK => ?_) AllReady.nil <;> (go_simp; (refine hK _ _ ?_; clear hK K)))
                        all_goals (refine wpAny_ready (rs := [29]) ?_ (by simp) ?_; (focus (decide +kernel)); refine AllReady.cons rfl (fun K hK => ?_) AllReady.nil <;> (go_simp; (refine hK _ _ ?_; clear hK K)))
                        all_goals (refine wpAny_done (by decide +kernel) ?_ _)
                        all_goals (try go_wp2_with fail)
                        all_goals (go_meet; exact ⟨by rw [hk0]; rfl, HM.out⟩)
                      | true =>
                        have HIN : Hid (∀ wx, Fr [] w2 wx → Calls Try.prog 27 #[.agg #[.int .i64 (kd t), .int .i64 (nm t), .slice p1 (ar t).length c1], .int .i64 k] wx (LookP (over k t) wx)) := Lib.hid (fun wx hf => inside_any _ k (size t) t (Nat.le_refl _) _ wx (HTT.out wx hf))
                        cases ho : over k t with
                        | false =>
                          have HO := Lib.hid ho
                          rw [ho] at HIN
                          clear ho
                          refine wp_region_any (by kernel_rfl) ?_
                          change wpAny _ _ _ _ _ _ _ (World.drew _)
                          all_goals (refine wpAny_take (i := 0) (v := .slice (some ⟨bs, os, none⟩) k ks) rfl ?_ ?_ ?_ (fun _ _ _ h => h) (Or.inl ⟨by kernel_rfl, ?_⟩) ?_; (focus (decide +kernel)); (focus (decide +kernel)); (focus (decide +kernel)); (focus (intro w; go_simp; try with_reducible rfl)))
                          all_goals (refine wpAny_take (i := 1) (v := .int .i64 i) rfl ?_ ?_ ?_ (fun _ _ _ h => h) (Or.inl ⟨by kernel_rfl, ?_⟩) ?_; (focus (decide +kernel)); (focus (decide +kernel)); (focus (decide +kernel)); (focus (intro w; go_simp; try with_reducible rfl)))
                          all_goals (refine wpAny_ready (rs := [2]) ?_ (by simp) ?_; (focus (decide +kernel)); refine AllReady.cons rfl (fun K hK => ?_) AllReady.nil <;> (go_simp; (refine hK _ _ ?_; clear hK K)))
                          all_goals (refine wpAny_ready (rs := [3]) ?_ (by simp) ?_; (focus (decide +kernel)); refine AllReady.cons rfl (fun K hK => ?_) AllReady.nil <;> (go_simp; (refine hK _ _ ?_; clear hK K)))
                          all_goals (refine wpAny_ready (rs := [4]) ?_ (by simp) ?_; (focus (decide +kernel)); refine AllReady.cons rfl (fun K hK => ?_) AllReady.nil <;> (go_simp; (refine hK _ _ ?_; clear hK K)))
                          all_goals (refine wpAny_ready (rs := [5]) ?_ (by simp) ?_; (focus (decide +kernel)); refine AllReady.cons rfl (fun K hK => ?_) AllReady.nil <;> (go_simp; (refine hK _ _ ?_; clear hK K)))
                          all_goals (refine wpAny_ready (rs := [6]) ?_ (by simp) ?_; (focus (decide +kernel)); refine AllReady.cons rfl (fun K hK => ?_) AllReady.nil <;> (go_simp; (refine hK _ _ ?_; clear hK K)))
                          all_goals (refine wpAny_take (i := 7) (v := .slice (some ⟨bs, os, none⟩) k ks) rfl ?_ ?_ ?_ (fun _ _ _ h => h) (Or.inl ⟨by kernel_rfl, ?_⟩) ?_; (focus (decide +kernel)); (focus (decide +kernel)); (focus (decide +kernel)); (focus (intro w; go_simp; try with_reducible rfl)))
                          all_goals (refine wpAny_take (i := 8) (v := .int .i64 i) rfl ?_ ?_ ?_ (fun _ _ _ h => h) (Or.inl ⟨by kernel_rfl, ?_⟩) ?_; (focus (decide +kernel)); (focus (decide +kernel)); (focus (decide +kernel)); (focus (intro w; go_simp; try with_reducible rfl)))
                          all_goals (refine wpAny_take (i := 11) (v := .slice (some ⟨bs, os, none⟩) k ks) rfl ?_ ?_ ?_ (fun _ _ _ h => h) (Or.inl ⟨by kernel_rfl, ?_⟩) ?_; (focus (decide +kernel)); (focus (decide +kernel)); (focus (decide +kernel)); (focus (intro w; go_simp; try with_reducible rfl)))
                          all_goals (refine wpAny_take (i := 9) (v := .pointer (some ⟨bs, os + i * 3, none⟩)) rfl ?_ ?_ ?_ (fun _ _ _ h => h) (Or.inl ⟨by kernel_rfl, ?_⟩) ?_; (focus (decide +kernel)); (focus (decide +kernel)); (focus (decide +kernel)); (focus (intro w; go_simp; try with_reducible rfl)))
                          all_goals (refine wpAny_take (i := 12) (v := .int .i64 k) rfl ?_ ?_ ?_ (fun _ _ _ h => h) (Or.inl ⟨by kernel_rfl, ?_⟩) ?_; (focus (decide +kernel)); (focus (decide +kernel)); (focus (decide +kernel)); (focus (intro w; go_simp; try with_reducible rfl)))
                          all_goals (refine wpAny_ready (rs := [10]) ?_ (by simp) ?_; (focus (decide +kernel)); refine AllReady.cons rfl (fun K hK => ?_) AllReady.nil <;> (go_simp; (refine hK _ _ ?_; clear hK K)))
                          all_goals (refine wpAny_ready (rs := [13]) ?_ (by simp) ?_; (focus (decide +kernel)); refine AllReady.cons rfl (fun K hK => ?_) AllReady.nil <;> (go_simp; (first | (go_at_call 27; (with_reducible refine (HIN.out _ HM.out).mono ?_); rintro e wn ⟨rfl, hf⟩; have HM := Lib.hid (HM.out.trans hf); clear hf; obtain ⟨z0, z1, z2, z3, z4, z5, z6, z7⟩ := HKV.out _ HM.out; refine hK _ _ ?_; clear hK K))))
                          all_goals (refine wpAny_ready (rs := [14]) ?_ (by simp) ?_; (focus (decide +kernel)); refine AllReady.cons rfl (fun K hK => ?_) AllReady.nil <;> (go_simp; (refine hK _ _ ?_; clear hK K)))
                          all_goals (refine wpAny_ready (rs := [15]) ?_ (by simp) ?_; (focus (decide +kernel)); refine AllReady.cons rfl (fun K hK => ?_) AllReady.nil <;> (go_simp; (refine hK _ _ ?_; clear hK K)))
                          all_goals (refine wpAny_take (i := 16) (v := undef) rfl ?_ ?_ ?_ (fun _ _ _ h => h) (Or.inr ⟨by kernel_rfl, rfl⟩) ?_; (focus (decide +kernel)); (focus (decide +kernel)); (focus (decide +kernel)))
                          all_goals (refine wpAny_take (i := 17) (v := undef) rfl ?_ ?_ ?_ (fun _ _ _ h => h) (Or.inr ⟨by kernel_rfl, rfl⟩) ?_; (focus (decide +kernel)); (focus (decide +kernel)); (focus (decide +kernel)))
                          all_goals (refine wpAny_take (i := 18) (v := undef) rfl ?_ ?_ ?_ (fun _ _ _ h => h) (Or.inr ⟨by kernel_rfl, rfl⟩) ?_; (focus (decide +kernel)); (focus (decide +kernel)); (focus (decide +kernel)))
                          all_goals (refine wpAny_take (i := 22) (v := undef) rfl ?_ ?_ ?_ (fun _ _ _ h => h) (Or.inr ⟨by kernel_rfl, rfl⟩) ?_; (focus (decide +kernel)); (focus (decide +kernel)); (focus (decide +kernel)))
                          all_goals (refine wpAny_take (i := 23) (v := undef) rfl ?_ ?_ ?_ (fun _ _ _ h => h) (Or.inr ⟨by kernel_rfl, rfl⟩) ?_; (focus (decide +kernel)); (focus (decide +kernel)); (focus (decide +kernel)))
                          all_goals (refine wpAny_take (i := 19) (v := undef) rfl ?_ ?_ ?_ (fun _ _ _ h => h) (Or.inr ⟨by kernel_rfl, rfl⟩) ?_; (focus (decide +kernel)); (focus (decide +kernel)); (focus (decide +kernel)))
                          all_goals (refine wpAny_take (i := 24) (v := undef) rfl ?_ ?_ ?_ (fun _ _ _ h => h) (Or.inr ⟨by kernel_rfl, rfl⟩) ?_; (focus (decide +kernel)); (focus (decide +kernel)); (focus (decide +kernel)))
                          all_goals (refine wpAny_take (i := 20) (v := undef) rfl ?_ ?_ ?_ (fun _ _ _ h => h) (Or.inr ⟨by kernel_rfl, rfl⟩) ?_; (focus (decide +kernel)); (focus (decide +kernel)); (focus (decide +kernel)))
                          all_goals (refine wpAny_take (i := 25) (v := undef) rfl ?_ ?_ ?_ (fun _ _ _ h => h) (Or.inr ⟨by kernel_rfl, rfl⟩) ?_; (focus (decide +kernel)); (focus (decide +kernel)); (focus (decide +kernel)))
                          all_goals (refine wpAny_ready (rs := [21]) ?_ (by simp) ?_; (focus (decide +kernel)); refine AllReady.cons rfl (fun K hK => ?_) AllReady.nil <;> (go_simp; (refine hK _ _ ?_; clear hK K)))
                          all_goals (refine wpAny_ready (rs := [26]) ?_ (by simp) ?_; (focus (decide +kernel)); refine AllReady.cons rfl (fun K hK => ?_) AllReady.nil <;> (go_simp; (refine hK _ _ ?_; clear hK K)))
                          all_goals (refine wpAny_ready (rs := [27]) ?_ (by simp) ?_; (focus (decide +kernel)); refine AllReady.cons rfl (fun K hK => ?_) AllReady.nil <;> (go_simp; (refine hK _ _ ?_; clear hK K)))
                          all_goals (refine wpAny_ready (rs := [28]) ?_ (by simp) ?_; (focus (decide +kernel)); refine AllReady.cons rfl (fun K hK => ?_) AllReady.nil <;> (go_simp; (refine hK _ _ ?_; clear hK K)))
                          all_goals (refine wpAny_ready (rs := [29]) ?_ (by simp) ?_; (focus (decide +kernel)); refine AllReady.cons rfl (fun K hK => ?_) AllReady.nil <;> (go_simp; (refine hK _ _ ?_; clear hK K)))
                          all_goals (refine wpAny_done (by decide +kernel) ?_ _)
                          all_goals (try go_wp2_with fail)
                          all_goals (go_meet; exact ⟨by rw [hk0, HO.out]; rfl, HM.out⟩)
                        | true =>
                          have HAP := Lib.hid (HAPX.out ho)
                          have HO := Lib.hid ho
                          rw [ho] at HIN
                          clear ho
                          refine wp_region_any (by kernel_rfl) ?_
                          change wpAny _ _ _ _ _ _ _ (World.drew _)
                          all_goals (refine wpAny_take (i := 0) (v := .slice (some ⟨bs, os, none⟩) k ks) rfl ?_ ?_ ?_ (fun _ _ _ h => h) (Or.inl ⟨by kernel_rfl, ?_⟩) ?_; (focus (decide +kernel)); (focus (decide +kernel)); (focus (decide +kernel)); (focus (intro w; go_simp; try with_reducible rfl)))
                          all_goals (refine wpAny_take (i := 1) (v := .int .i64 i) rfl ?_ ?_ ?_ (fun _ _ _ h => h) (Or.inl ⟨by kernel_rfl, ?_⟩) ?_; (focus (decide +kernel)); (focus (decide +kernel)); (focus (decide +kernel)); (focus (intro w; go_simp; try with_reducible rfl)))
                          all_goals (refine wpAny_ready (rs := [2]) ?_ (by simp) ?_; (focus (decide +kernel)); refine AllReady.cons rfl (fun K hK => ?_) AllReady.nil <;> (go_simp; (refine hK _ _ ?_; clear hK K)))
                          all_goals (refine wpAny_ready (rs := [3]) ?_ (by simp) ?_; (focus (decide +kernel)); refine AllReady.cons rfl (fun K hK => ?_) AllReady.nil <;> (go_simp; (refine hK _ _ ?_; clear hK K)))
                          all_goals (refine wpAny_ready (rs := [4]) ?_ (by simp) ?_; (focus (decide +kernel)); refine AllReady.cons rfl (fun K hK => ?_) AllReady.nil <;> (go_simp; (refine hK _ _ ?_; clear hK K)))
                          all_goals (refine wpAny_ready (rs := [5]) ?_ (by simp) ?_; (focus (decide +kernel)); refine AllReady.cons rfl (fun K hK => ?_) AllReady.nil <;> (go_simp; (refine hK _ _ ?_; clear hK K)))
                          all_goals (refine wpAny_ready (rs := [6]) ?_ (by simp) ?_; (focus (decide +kernel)); refine AllReady.cons rfl (fun K hK => ?_) AllReady.nil <;> (go_simp; (refine hK _ _ ?_; clear hK K)))
                          all_goals (refine wpAny_take (i := 7) (v := .slice (some ⟨bs, os, none⟩) k ks) rfl ?_ ?_ ?_ (fun _ _ _ h => h) (Or.inl ⟨by kernel_rfl, ?_⟩) ?_; (focus (decide +kernel)); (focus (decide +kernel)); (focus (decide +kernel)); (focus (intro w; go_simp; try with_reducible rfl)))
                          all_goals (refine wpAny_take (i := 8) (v := .int .i64 i) rfl ?_ ?_ ?_ (fun _ _ _ h => h) (Or.inl ⟨by kernel_rfl, ?_⟩) ?_; (focus (decide +kernel)); (focus (decide +kernel)); (focus (decide +kernel)); (focus (intro w; go_simp; try with_reducible rfl)))
                          all_goals (refine wpAny_take (i := 11) (v := .slice (some ⟨bs, os, none⟩) k ks) rfl ?_ ?_ ?_ (fun _ _ _ h => h) (Or.inl ⟨by kernel_rfl, ?_⟩) ?_; (focus (decide +kernel)); (focus (decide +kernel)); (focus (decide +kernel)); (focus (intro w; go_simp; try with_reducible rfl)))
                          all_goals (refine wpAny_take (i := 9) (v := .pointer (some ⟨bs, os + i * 3, none⟩)) rfl ?_ ?_ ?_ (fun _ _ _ h => h) (Or.inl ⟨by kernel_rfl, ?_⟩) ?_; (focus (decide +kernel)); (focus (decide +kernel)); (focus (decide +kernel)); (focus (intro w; go_simp; try with_reducible rfl)))
                          all_goals (refine wpAny_take (i := 12) (v := .int .i64 k) rfl ?_ ?_ ?_ (fun _ _ _ h => h) (Or.inl ⟨by kernel_rfl, ?_⟩) ?_; (focus (decide +kernel)); (focus (decide +kernel)); (focus (decide +kernel)); (focus (intro w; go_simp; try with_reducible rfl)))
                          all_goals (refine wpAny_ready (rs := [10]) ?_ (by simp) ?_; (focus (decide +kernel)); refine AllReady.cons rfl (fun K hK => ?_) AllReady.nil <;> (go_simp; (refine hK _ _ ?_; clear hK K)))
                          all_goals (refine wpAny_ready (rs := [13]) ?_ (by simp) ?_; (focus (decide +kernel)); refine AllReady.cons rfl (fun K hK => ?_) AllReady.nil <;> (go_simp; (first | (go_at_call 27; (with_reducible refine (HIN.out _ HM.out).mono ?_); rintro e wn ⟨rfl, hf⟩; have HM := Lib.hid (HM.out.trans hf); clear hf; obtain ⟨z0, z1, z2, z3, z4, z5, z6, z7⟩ := HKV.out _ HM.out; refine hK _ _ ?_; clear hK K))))
                          all_goals (refine wpAny_ready (rs := [14]) ?_ (by simp) ?_; (focus (decide +kernel)); refine AllReady.cons rfl (fun K hK => ?_) AllReady.nil <;> (go_simp; (refine hK _ _ ?_; clear hK K)))
                          all_goals (refine wpAny_ready (rs := [15]) ?_ (by simp) ?_; (focus (decide +kernel)); refine AllReady.cons rfl (fun K hK => ?_) AllReady.nil <;> (go_simp; (refine hK _ _ ?_; clear hK K)))
                          all_goals (refine wpAny_take (i := 16) (v := .slice (some ⟨bu, ou, none⟩) k ku) rfl ?_ ?_ ?_ (fun _ _ _ h => h) (Or.inl ⟨by kernel_rfl, ?_⟩) ?_; (focus (decide +kernel)); (focus (decide +kernel)); (focus (decide +kernel)); (focus (intro w; go_simp; try with_reducible rfl)))
                          all_goals (refine wpAny_take (i := 17) (v := .slice (some ⟨bs, os, none⟩) k ks) rfl ?_ ?_ ?_ (fun _ _ _ h => h) (Or.inl ⟨by kernel_rfl, ?_⟩) ?_; (focus (decide +kernel)); (focus (decide +kernel)); (focus (decide +kernel)); (focus (intro w; go_simp; try with_reducible rfl)))
                          all_goals (refine wpAny_take (i := 18) (v := .int .i64 i) rfl ?_ ?_ ?_ (fun _ _ _ h => h) (Or.inl ⟨by kernel_rfl, ?_⟩) ?_; (focus (decide +kernel)); (focus (decide +kernel)); (focus (decide +kernel)); (focus (intro w; go_simp; try with_reducible rfl)))
                          all_goals (refine wpAny_take (i := 22) (v := .slice (some ⟨bu, ou, none⟩) k ku) rfl ?_ ?_ ?_ (fun _ _ _ h => h) (Or.inl ⟨by kernel_rfl, ?_⟩) ?_; (focus (decide +kernel)); (focus (decide +kernel)); (focus (decide +kernel)); (focus (intro w; go_simp; try with_reducible rfl)))
                          all_goals (refine wpAny_take (i := 23) (v := .int .i64 i) rfl ?_ ?_ ?_ (fun _ _ _ h => h) (Or.inl ⟨by kernel_rfl, ?_⟩) ?_; (focus (decide +kernel)); (focus (decide +kernel)); (focus (decide +kernel)); (focus (intro w; go_simp; try with_reducible rfl)))
                          all_goals (refine wpAny_take (i := 19) (v := .pointer (some ⟨bs, os + i * 3, none⟩)) rfl ?_ ?_ ?_ (fun _ _ _ h => h) (Or.inl ⟨by kernel_rfl, ?_⟩) ?_; (focus (decide +kernel)); (focus (decide +kernel)); (focus (decide +kernel)); (focus (intro w; go_simp; try with_reducible rfl)))
                          all_goals (refine wpAny_take (i := 24) (v := .pointer (some ⟨bu, ou + i * 3, none⟩)) rfl ?_ ?_ ?_ (fun _ _ _ h => h) (Or.inl ⟨by kernel_rfl, ?_⟩) ?_; (focus (decide +kernel)); (focus (decide +kernel)); (focus (decide +kernel)); (focus (intro w; go_simp; try with_reducible rfl)))
                          all_goals (refine wpAny_ready (rs := [20, 25]) ?_ (by simp) ?_; (focus (decide +kernel)); refine AllReady.cons rfl (fun K hK => ?_) (AllReady.cons rfl (fun K hK => ?_) AllReady.nil) <;> (go_simp; (refine hK _ _ ?_; clear hK K)))
                          all_goals (first | (refine wpAny_ready (rs := [21, 25]) ?_ (by simp) ?_; (focus (decide +kernel)); refine AllReady.cons rfl (fun K hK => ?_) (AllReady.cons rfl (fun K hK => ?_) AllReady.nil) <;> (go_simp; (first | (go_at_call 19; (with_reducible refine (HAP.out _ HM.out).mono ?_); rintro e wn ⟨hf, dsn, rfl, hty⟩; obtain ⟨pn, cn, rfl, _⟩ := hty.shape; have HTA := Lib.hid hty; clear hty; have HM := Lib.hid (HM.out.trans hf); clear hf; obtain ⟨z0, z1, z2, z3, z4, z5, z6, z7⟩ := HKV.out _ HM.out; refine hK _ _ ?_; clear hK K) | (refine hK _ _ ?_; clear hK K)))) | (refine wpAny_ready (rs := [20]) ?_ (by simp) ?_; (focus (decide +kernel)); refine AllReady.cons rfl (fun K hK => ?_) AllReady.nil <;> (go_simp; (refine hK _ _ ?_; clear hK K))))
                          all_goals (first | (refine wpAny_ready (rs := [25]) ?_ (by simp) ?_; (focus (decide +kernel)); refine AllReady.cons rfl (fun K hK => ?_) AllReady.nil <;> (go_simp; (refine hK _ _ ?_; clear hK K))) | (refine wpAny_ready (rs := [21]) ?_ (by simp) ?_; (focus (decide +kernel)); refine AllReady.cons rfl (fun K hK => ?_) AllReady.nil <;> (go_simp; (first | (go_at_call 19; (with_reducible refine (HAP.out _ HM.out).mono ?_); rintro e wn ⟨hf, dsn, rfl, hty⟩; obtain ⟨pn, cn, rfl, _⟩ := hty.shape; have HTA := Lib.hid hty; clear hty; have HM := Lib.hid (HM.out.trans hf); clear hf; obtain ⟨z0, z1, z2, z3, z4, z5, z6, z7⟩ := HKV.out _ HM.out; refine hK _ _ ?_; clear hK K)))))
                          all_goals (refine wpAny_ready (rs := [26]) ?_ (by simp) ?_; (focus (decide +kernel)); refine AllReady.cons rfl (fun K hK => ?_) AllReady.nil <;> (go_simp; (first | (go_at_call 16; (with_reducible refine (HSM.out _ R1 g _ _ HTA.out (HGG.out _ HM.out)).mono ?_); rintro e wn ⟨rfl, hf⟩; have HM := Lib.hid (HM.out.trans hf); clear hf; obtain ⟨z0, z1, z2, z3, z4, z5, z6, z7⟩ := HKV.out _ HM.out; refine hK _ _ ?_; clear hK K))))
                          all_goals (refine wpAny_ready (rs := [27]) ?_ (by simp) ?_; (focus (decide +kernel)); refine AllReady.cons rfl (fun K hK => ?_) AllReady.nil <;> (go_simp; (refine hK _ _ ?_; clear hK K)))
                          all_goals (refine wpAny_ready (rs := [28]) ?_ (by simp) ?_; (focus (decide +kernel)); refine AllReady.cons rfl (fun K hK => ?_) AllReady.nil <;> (go_simp; (refine hK _ _ ?_; clear hK K)))
                          all_goals (refine wpAny_ready (rs := [29]) ?_ (by simp) ?_; (focus (decide +kernel)); refine AllReady.cons rfl (fun K hK => ?_) AllReady.nil <;> (go_simp; (refine hK _ _ ?_; clear hK K)))
                          all_goals (refine wpAny_done (by decide +kernel) ?_ _)
                          all_goals (try go_wp2_with fail)
                          all_goals (go_meet; exact ⟨by rw [hk0, HO.out]; rfl, HM.out⟩)
                    case rest =>
                    obtain ⟨rfl, hf7⟩ := hcut
                    obtain ⟨w7, hw7⟩ : ∃ v : World, v = wc := ⟨_, rfl⟩
                    subst hw7
                    have HX7 := Lib.hid hf7
                    clear hf7
                    cases hB : ((kd t != 0) && (!(over k t) || !(same R1 g))) with
                    | true =>
                      go_wp2_with fail
                      go_ret
                      exact ⟨rfl, HF2.out.trans HX7.out⟩
                    | false =>
                      have HBF : Hid (kd t = 0 ∨ (over k t = true ∧ Un.ap (asg u) t = asg u i)) := Lib.hid (by
                        by_cases h0 : kd t = 0
                        · exact .inl h0
                        · right
                          have h1 : (kd t != 0) = true := by simpa using h0
                          rw [h1] at hB
                          simp only [Bool.true_and, Bool.or_eq_false_iff, Bool.not_eq_false'] at hB
                          refine ⟨hB.1, ?_⟩
                          rw [← HR1.out, (Un.same_eq R1 g).1 hB.2, Un.asg_get HUG.out])
                      clear hB
                      go_wp2_with fail
                      go_roundw
                      case rel => exact ⟨i + 1, by go_num, by omega, Lib.hid (fun j hj y hy => by
                        by_cases hj' : j < i
                        · exact HG.out j hj' y hy
                        · obtain rfl : j = i := by omega
                          rw [HST.out] at hy
                          cases hy
                          exact HBF.out), HX7⟩
                      case measure => simp [RowKit.intOf]; omega
                  case neg =>
                    have hd2 : decide ((i : Int) < (k : Int)) = false := by simp; omega
                    have hd3 : decide (i < k) = false := by simpa using hlt
                    have HALL : Hid (∀ (j : Nat) (t : Ty), s[j]? = some t → kd t = 0 ∨ (over k t = true ∧ Un.ap (asg u) t = asg u j)) := Lib.hid (fun j t ht => HG.out j (by have h1 := (List.getElem?_eq_some_iff.1 ht).1; have h2 := HN.out; omega) t ht)
                    go_wp2_with fail
                    obtain ⟨wB, hwB⟩ : ∃ x : World, x = wr := ⟨_, rfl⟩
                    subst hwB
                    obtain ⟨Ra, hRa⟩ : ∃ R, R = Un.ap (asg u) a := ⟨_, rfl⟩
                    obtain ⟨Rb, hRb⟩ : ∃ R, R = Un.ap (asg u) b := ⟨_, rfl⟩
                    have HRA := Lib.hid hRa
                    have HRB := Lib.hid hRb
                    have HAa : Hid (∀ wx, Fr [] w2 wx → Calls Try.prog 19 #[.slice pu k ku, .agg #[.int .i64 (kd a), .int .i64 (nm a), .slice pa (ar a).length ca]] wx (TypP (fun _ => True) Ra wx)) := Lib.hid (fun wx hf => by
                      rw [hRa]
                      exact HAC.out a HOA.out HSA.out _ wx (HU0.out wx hf) (HA0.out wx hf))
                    have HAb : Hid (∀ wx, Fr [] w2 wx → Calls Try.prog 19 #[.slice pu k ku, .agg #[.int .i64 (kd b), .int .i64 (nm b), .slice pb (ar b).length cb]] wx (TypP (fun _ => True) Rb wx)) := Lib.hid (fun wx hf => by
                      rw [hRb]
                      exact HAC.out b HOB.out HSB.out _ wx (HU0.out wx hf) (HB0.out wx hf))
                    have HM : Hid (Fr [] w2 wB.drew) := Lib.hid (HFR.out.trans ((Fr.refl [] wB).drew))
                    obtain ⟨x0, x1, x2, xl, x3, x4, x5, xm⟩ := HK.out _ HM.out
                    clear hRa hRb
                    go_cut [109] (fun sB wx => sB = .bool (!(same Ra Rb)) ∧ Fr [] w2 wx)
                    case first =>
                      go_region_law (first | (go_simp; go_at_call 19; (with_reducible refine (HAa.out _ HM.out).mono ?_); rintro e wn ⟨hf, dsn, rfl, hty⟩; obtain ⟨pn, cn, rfl, _⟩ := hty.shape; have HTA := Lib.hid hty; have HM := Lib.hid (HM.out.trans hf); obtain ⟨x0, x1, x2, xl, x3, x4, x5, xm⟩ := HK.out _ HM.out; clear hf hty) | (go_simp; go_at_call 19; (with_reducible refine (HAb.out _ HM.out).mono ?_); rintro e wn ⟨hf, dsm, rfl, hty⟩; obtain ⟨pm, cm, rfl, _⟩ := hty.shape; have HTB := Lib.hid hty; have HTA := Lib.hid (HTA.out.keep0 hf); have HM := Lib.hid (HM.out.trans hf); obtain ⟨x0, x1, x2, xl, x3, x4, x5, xm⟩ := HK.out _ HM.out; clear hf hty) | (go_simp; go_at_call 16; (with_reducible refine (HSM.out _ Ra Rb _ _ HTA.out HTB.out).mono ?_); rintro e wn ⟨rfl, hf⟩; have HM := Lib.hid (HM.out.trans hf); clear hf))
                      all_goals (try go_wp2_with fail)
                      all_goals (go_meet; exact ⟨rfl, HM.out⟩)
                    case rest =>
                    obtain ⟨rfl, hf7⟩ := hcut
                    obtain ⟨w7, hw7⟩ : ∃ v : World, v = wc := ⟨_, rfl⟩
                    subst hw7
                    have HX7 := Lib.hid hf7
                    clear hf7 x0 x1 x2 xl x3 x4 x5 xm HM HAa HAb
                    obtain ⟨x0, x1, x2, xl, x3, x4, x5, xm⟩ := HK.out w7 HX7.out
                    cases hab : same Ra Rb with
                    | false =>
                      go_wp2_with fail
                      go_ret
                      exact ⟨rfl, HF2.out.trans HX7.out⟩
                    | true =>
                      have HAB : Hid (Un.ap (asg u) a = Un.ap (asg u) b) := Lib.hid (by rw [← HRA.out, ← HRB.out]; exact (Un.same_eq Ra Rb).1 hab)
                      clear hab
                      go_wp2_with fail
                      obtain ⟨r, hur, hbad, huc⟩ := HUNI.out HSZS.out HSLS.out HSA.out HSB.out
                      have HUR := Lib.hid hur
                      have HHO : Hid ((¬ ∃ x ∈ s, kd x = 0 ∧ Un.unsolved x = false) → Un.Holds (asg u) 0 s) := Lib.hid (fun hnb j t ht => by
                        rcases HALL.out j t ht with h0 | ⟨_, h1⟩
                        · left
                          cases hu : Un.unsolved t with
                          | true => rfl
                          | false => exact absurd ⟨t, List.mem_of_getElem? ht, h0, hu⟩ hnb
                        · right
                          rw [h1, Nat.zero_add])
                      have HBAD := Lib.hid hbad
                      have HSU0 := HU0
                      refine (huc _ _ w7 (HS0.out w7 HX7.out) (HA0.out w7 HX7.out) (HB0.out w7 HX7.out)).mono ?_
                      clear huc hur hbad x0 x1 x2 xl x3 x4 x5 xm
                      rintro e wU ⟨hf, hP⟩
                      have HXU := Lib.hid (HX7.out.trans hf)
                      clear hf
                      cases r with
                      | error c =>
                        simp only at hP
                        subst hP
                        have hc : c = 1 ∨ c = 2 := by
                          by_cases hb : ∃ x ∈ s, kd x = 0 ∧ Un.unsolved x = false
                          · have := HBAD.out hb
                            simp only [Except.error.injEq] at this
                            exact .inl this
                          · have h1 := (HUR.out.sol (asg u) (HHO.out hb) HAB.out).1
                            rcases HUR.out.err c rfl with h | h | h
                            · exact .inl h
                            · exact .inr h
                            · exact absurd (by rw [h]) h1
                        have hc0 : (c != 0) = true := by rcases hc with rfl | rfl <;> rfl
                        have hc8 : (c != 8) = true := by rcases hc with rfl | rfl <;> rfl
                        clear hc
                        go_wp2_with fail
                        go_ret
                        exact ⟨rfl, HF2.out.trans HXU.out⟩
                      | ok rs =>
                        obtain ⟨vr, rfl, hvr⟩ := hP
                        obtain ⟨pr, kr, rfl⟩ := hvr.shape
                        have hrl : rs.length = k := HUR.out.len rs rfl
                        have hnb : ¬ ∃ x ∈ s, kd x = 0 ∧ Un.unsolved x = false := fun hb => by
                          have := HBAD.out hb
                          cases this
                        have HRS : Hid (∀ (i : Nat) (x : Ty), rs[i]? = some x → x = Un.zero ∨ (over k x = true ∧ Un.ap (asg u) x = asg u i)) := Lib.hid (fun i x hx => (HUR.out.sol (asg u) (HHO.out hnb) HAB.out).2 rs rfl i x hx)
                        rw [hrl] at hvr ⊢
                        have HVR := Lib.hid (TysV.weak (N' := fun _ => True) hvr (fun _ _ _ => trivial))
                        have HRL := Lib.hid hrl
                        have he1 : ((k : Int) != (k : Int)) = false := by simp
                        have he2 : (k != k) = false := by simp
                        clear hvr hrl hnb
                        go_wp2_with fail
                        go_loopw [13] (fun x wr => ∃ i : Nat, x = .int .i64 i ∧ i ≤ k ∧ Hid (Fr [] wU wr)) (fun x _ => k - (RowKit.intOf x).toNat)
                        case atStart => exact ⟨0, rfl, Nat.zero_le _, Lib.hid (Fr.refl _ _)⟩
                        case round =>
                          obtain ⟨i, rfl, hi, HFR⟩ := hrel
                          by_cases hlt : i < k
                          case pos =>
                            have hd2 : decide ((i : Int) < (k : Int)) = true := by simp; omega
                            have hd3 : decide (i < k) = true := by simpa using hlt
                            have hd4 : (i : Int) < (k : Int) := by omega
                            have hd5 : decide (0 ≤ (i : Int)) = true := by simp
                            obtain ⟨t, ht⟩ : ∃ t, rs[i]? = some t := ⟨_, List.getElem?_eq_getElem (by rw [HRL.out]; exact hlt)⟩
                            obtain ⟨g, hg⟩ : ∃ g, u[i]? = some g := ⟨_, List.getElem?_eq_getElem (by rw [← HKL.out]; exact hlt)⟩
                            obtain ⟨bs, os, rfl, hat⟩ := HVR.out.elem ht
                            obtain ⟨bu, ou, rfl, hau⟩ := HU.out.elem hg
                            obtain ⟨p1, c1, k1, hb1, g0, g1, g2⟩ := hat.el (Fr.refl [] wU) (by simp) ht
                            obtain ⟨p2, c2, k2, hb2, v0, v1, v2⟩ := hau.el (Fr.refl [] w) (by simp) hg
                            have HKV : Hid (∀ wx, Fr [] wU wx → wx.cell? ⟨bs, os + i * 3, none⟩ = some (.int .i64 (kd t)) ∧ wx.cell? ⟨bs, os + i * 3 + 1, none⟩ = some (.int .i64 (nm t)) ∧ wx.cell? ⟨bs, os + i * 3 + 2, none⟩ = some (.slice p1 (ar t).length c1) ∧ bs < wx.heap.size ∧ wx.cell? ⟨bu, ou + i * 3, none⟩ = some (.int .i64 (kd g)) ∧ wx.cell? ⟨bu, ou + i * 3 + 1, none⟩ = some (.int .i64 (nm g)) ∧ wx.cell? ⟨bu, ou + i * 3 + 2, none⟩ = some (.slice p2 (ar g).length c2) ∧ bu < wx.heap.size) := Lib.hid (fun wx hf => by
                              have hf2 := (HF2.out.trans HXU.out).trans hf
                              exact ⟨(hf.cell hb1 (by simp) _).trans g0, (hf.cell hb1 (by simp) _).trans g1, (hf.cell hb1 (by simp) _).trans g2, Nat.lt_of_lt_of_le hb1 hf.size, (hf2.cell hb2 (by simp) _).trans v0, (hf2.cell hb2 (by simp) _).trans v1, (hf2.cell hb2 (by simp) _).trans v2, Nat.lt_of_lt_of_le hb2 hf2.size⟩)
                            have HTT : Hid (∀ wx, Fr [] wU wx → TyV wx (fun _ => True) t [.int .i64 (kd t), .int .i64 (nm t), .slice p1 (ar t).length c1]) := Lib.hid (fun wx hf => k1.keep0 hf)
                            have HGG : Hid (∀ wx, Fr [] wU wx → TyV wx (fun _ => True) g [.int .i64 (kd g), .int .i64 (nm g), .slice p2 (ar g).length c2]) := Lib.hid (fun wx hf => k2.keep0 ((HF2.out.trans HXU.out).trans hf))
                            obtain ⟨R1, hR1⟩ : ∃ R1, R1 = Un.ap (asg u) t := ⟨_, rfl⟩
                            have hone : t = Un.zero ∨ (over k t = true ∧ R1 = g) := by
                              rcases HRS.out i t ht with h | ⟨h1, h2⟩
                              · exact .inl h
                              · exact .inr ⟨h1, by rw [hR1, h2, Un.asg_get hg]⟩
                            have HONE := Lib.hid hone
                            have HAPX : Hid (over k t = true → ∀ wx, Fr [] wU wx → Calls Try.prog 19 #[.slice (some ⟨bu, ou, none⟩) k ku, .agg #[.int .i64 (kd t), .int .i64 (nm t), .slice p1 (ar t).length c1]] wx (TypP (fun _ => True) R1 wx)) := Lib.hid (fun ho wx hf => by
                              have hst : size t ≤ 30 := by
                                rcases hone with h | ⟨_, h2⟩
                                · rw [h]; decide
                                · have h3 := Un.size_ap (θ := asg u) t ho
                                  rw [← hR1, h2] at h3
                                  have := HSZ.out g (List.mem_of_getElem? hg)
                                  omega
                              rw [hR1]
                              exact HAC.out t ho hst _ wx (HU0.out wx (HXU.out.trans hf)) (HTT.out wx hf))
                            clear hat hau ht hg k1 k2 hb1 hb2 g0 g1 g2 v0 v1 v2 hR1 hone
                            have HM : Hid (Fr [] wU wr.drew) := Lib.hid (HFR.out.trans ((Fr.refl [] wr).drew))
                            obtain ⟨z0, z1, z2, z3, z4, z5, z6, z7⟩ := HKV.out _ HM.out
                            go_wp2_with fail
                            go_cut [165] (fun sB wx => sB = .bool ((kd t != 0) && (!(over k t) || !(same R1 g))) ∧ Fr [] wU wx)
                            case first =>
                              cases hk0 : (kd t != 0) with
                              | false =>
                                refine wp_region_any (by kernel_rfl) ?_
                                change wpAny _ _ _ _ _ _ _ (World.drew _)
                                all_goals (refine wpAny_take (i := 0) (v := .slice (some ⟨bs, os, none⟩) k kr) rfl ?_ ?_ ?_ (fun _ _ _ h => h) (Or.inl ⟨by kernel_rfl, ?_⟩) ?_; (focus (decide +kernel)); (focus (decide +kernel)); (focus (decide +kernel)); (focus (intro w; go_simp; try with_reducible rfl)))
                                all_goals (refine wpAny_take (i := 1) (v := .int .i64 i) rfl ?_ ?_ ?_ (fun _ _ _ h => h) (Or.inl ⟨by kernel_rfl, ?_⟩) ?_; (focus (decide +kernel)); (focus (decide +kernel)); (focus (decide +kernel)); (focus (intro w; go_simp; try with_reducible rfl)))
                                all_goals (refine wpAny_ready (rs := [2]) ?_ (by simp) ?_; (focus (decide +kernel)); refine AllReady.cons rfl (fun K hK => ?_) AllReady.nil <;> (go_simp; (refine hK _ _ ?_; clear hK K)))
                                all_goals (refine wpAny_ready (rs := [3]) ?_ (by simp) ?_; (focus (decide +kernel)); refine AllReady.cons rfl (fun K hK => ?_) AllReady.nil <;> (go_simp; (refine hK _ _ ?_; clear hK K)))
                                all_goals (refine wpAny_ready (rs := [4]) ?_ (by simp) ?_; (focus (decide +kernel)); refine AllReady.cons rfl (fun K hK => ?_) AllReady.nil <;> (go_simp; (refine hK _ _ ?_; clear hK K)))
                                all_goals (refine wpAny_ready (rs := [5]) ?_ (by simp) ?_; (focus (decide +kernel)); refine AllReady.cons rfl (fun K hK => ?_) AllReady.nil <;> (go_simp; (refine hK _ _ ?_; clear hK K)))
                                all_goals (refine wpAny_ready (rs := [6]) ?_ (by simp) ?_; (focus (decide +kernel)); refine AllReady.cons rfl (fun K hK => ?_) AllReady.nil <;> (go_simp; (refine hK _ _ ?_; clear hK K)))
                                all_goals (refine wpAny_take (i := 7) (v := undef) rfl ?_ ?_ ?_ (fun _ _ _ h => h) (Or.inr ⟨by kernel_rfl, rfl⟩) ?_; (focus (decide +kernel)); (focus (decide +kernel)); (focus (decide +kernel)))
                                all_goals (refine wpAny_take (i := 8) (v := undef) rfl ?_ ?_ ?_ (fun _ _ _ h => h) (Or.inr ⟨by kernel_rfl, rfl⟩) ?_; (focus (decide +kernel)); (focus (decide +kernel)); (focus (decide +kernel)))
                                all_goals (refine wpAny_take (i := 11) (v := undef) rfl ?_ ?_ ?_ (fun _ _ _ h => h) (Or.inr ⟨by kernel_rfl, rfl⟩) ?_; (focus (decide +kernel)); (focus (decide +kernel)); (focus (decide +kernel)))
                                all_goals (refine wpAny_take (i := 9) (v := undef) rfl ?_ ?_ ?_ (fun _ _ _ h => h) (Or.inr ⟨by kernel_rfl, rfl⟩) ?_; (focus (decide +kernel)); (focus (decide +kernel)); (focus (decide +kernel)))
                                all_goals (refine wpAny_take (i := 10) (v := undef) rfl ?_ ?_ ?_ (fun _ _ _ h => h) (Or.inr ⟨by kernel_rfl, rfl⟩) ?_; (focus (decide +kernel)); (focus (decide +kernel)); (focus (decide +kernel)))
                                all_goals (refine wpAny_take (i := 12) (v := undef) rfl ?_ ?_ ?_ (fun _ _ _ h => h) (Or.inr ⟨by kernel_rfl, rfl⟩) ?_; (focus (decide +kernel)); (focus (decide +kernel)); (focus (decide +kernel)))
                                all_goals (refine wpAny_ready (rs := [13]) ?_ (by simp) ?_; (focus (decide +kernel)); refine AllReady.cons rfl (fun K hK => ?_) AllReady.nil <;> (go_simp; (refine hK _ _ ?_; clear hK K)))
                                all_goals (refine wpAny_ready (rs := [14]) ?_ (by simp) ?_; (focus (decide +kernel)); refine AllReady.cons rfl (fun K hK => ?_) AllReady.nil <;> (go_simp; (refine hK _ _ ?_; clear hK K)))
                                all_goals (refine wpAny_ready (rs := [15]) ?_ (by simp) ?_; (focus (decide +kernel)); refine AllReady.cons rfl (fun K hK => ?_) AllReady.nil <;> (go_simp; (refine hK _ _ ?_; clear hK K)))
                                all_goals (refine wpAny_take (i := 16) (v := undef) rfl ?_ ?_ ?_ (fun _ _ _ h => h) (Or.inr ⟨by kernel_rfl, rfl⟩) ?_; (focus (decide +kernel)); (focus (decide +kernel)); (focus (decide +kernel)))
                                all_goals (refine wpAny_take (i := 17) (v := undef) rfl ?_ ?_ ?_ (fun _ _ _ h => h) (Or.inr ⟨by kernel_rfl, rfl⟩) ?_; (focus (decide +kernel)); (focus (decide +kernel)); (focus (decide +kernel)))
                                all_goals (refine wpAny_take (i := 18) (v := undef) rfl ?_ ?_ ?_ (fun _ _ _ h => h) (Or.inr ⟨by kernel_rfl, rfl⟩) ?_; (focus (decide +kernel)); (focus (decide +kernel)); (focus (decide +kernel)))
                                all_goals (refine wpAny_take (i := 22) (v := undef) rfl ?_ ?_ ?_ (fun _ _ _ h => h) (Or.inr ⟨by kernel_rfl, rfl⟩) ?_; (focus (decide +kernel)); (focus (decide +kernel)); (focus (decide +kernel)))
                                all_goals (refine wpAny_take (i := 23) (v := undef) rfl ?_ ?_ ?_ (fun _ _ _ h => h) (Or.inr ⟨by kernel_rfl, rfl⟩) ?_; (focus (decide +kernel)); (focus (decide +kernel)); (focus (decide +kernel)))
                                all_goals (refine wpAny_take (i := 19) (v := undef) rfl ?_ ?_ ?_ (fun _ _ _ h => h) (Or.inr ⟨by kernel_rfl, rfl⟩) ?_; (focus (decide +kernel)); (focus (decide +kernel)); (focus (decide +kernel)))
                                all_goals (refine wpAny_take (i := 24) (v := undef) rfl ?_ ?_ ?_ (fun _ _ _ h => h) (Or.inr ⟨by kernel_rfl, rfl⟩) ?_; (focus (decide +kernel)); (focus (decide +kernel)); (focus (decide +kernel)))
                                all_goals (refine wpAny_take (i := 20) (v := undef) rfl ?_ ?_ ?_ (fun _ _ _ h => h) (Or.inr ⟨by kernel_rfl, rfl⟩) ?_; (focus (decide +kernel)); (focus (decide +kernel)); (focus (decide +kernel)))
                                all_goals (refine wpAny_take (i := 25) (v := undef) rfl ?_ ?_ ?_ (fun _ _ _ h => h) (Or.inr ⟨by kernel_rfl, rfl⟩) ?_; (focus (decide +kernel)); (focus (decide +kernel)); (focus (decide +kernel)))
                                all_goals (refine wpAny_ready (rs := [21]) ?_ (by simp) ?_; (focus (decide +kernel)); refine AllReady.cons rfl (fun K hK => ?_) AllReady.nil <;> (go_simp; (refine hK _ _ ?_; clear hK K)))
                                all_goals (refine wpAny_ready (rs := [26]) ?_ (by simp) ?_; (focus (decide +kernel)); refine AllReady.cons rfl (fun K hK => ?_) AllReady.nil <;> (go_simp; (refine hK _ _ ?_; clear hK K)))
                                all_goals (refine wpAny_ready (rs := [27]) ?_ (by simp) ?_; (focus (decide +kernel)); refine AllReady.cons rfl (fun K hK => ?_) AllReady.nil <;> (go_simp; (refine hK _ _ ?_; clear hK K)))
                                all_goals (refine wpAny_ready (rs := [28]) ?_ (by simp) ?_; (focus (decide +kernel)); refine AllReady.cons rfl (fun K hK => ?_) AllReady.nil <;> (go_simp; (refine hK _ _ ?_; clear hK K)))
                                all_goals (refine wpAny_ready (rs := [29]) ?_ (by simp) ?_; (focus (decide +kernel)); refine AllReady.cons rfl (fun K hK => ?_) AllReady.nil <;> (go_simp; (refine hK _ _ ?_; clear hK K)))
                                all_goals (refine wpAny_done (by decide +kernel) ?_ _)
                                all_goals (try go_wp2_with fail)
                                all_goals (go_meet; exact ⟨by rw [hk0]; rfl, HM.out⟩)
                              | true =>
                                have HIN : Hid (∀ wx, Fr [] wU wx → Calls Try.prog 27 #[.agg #[.int .i64 (kd t), .int .i64 (nm t), .slice p1 (ar t).length c1], .int .i64 k] wx (LookP (over k t) wx)) := Lib.hid (fun wx hf => inside_any _ k (size t) t (Nat.le_refl _) _ wx (HTT.out wx hf))
                                cases ho : over k t with
                                | false =>
                                  have HO := Lib.hid ho
                                  rw [ho] at HIN
                                  clear ho
                                  refine wp_region_any (by kernel_rfl) ?_
                                  change wpAny _ _ _ _ _ _ _ (World.drew _)
                                  all_goals (refine wpAny_take (i := 0) (v := .slice (some ⟨bs, os, none⟩) k kr) rfl ?_ ?_ ?_ (fun _ _ _ h => h) (Or.inl ⟨by kernel_rfl, ?_⟩) ?_; (focus (decide +kernel)); (focus (decide +kernel)); (focus (decide +kernel)); (focus (intro w; go_simp; try with_reducible rfl)))
                                  all_goals (refine wpAny_take (i := 1) (v := .int .i64 i) rfl ?_ ?_ ?_ (fun _ _ _ h => h) (Or.inl ⟨by kernel_rfl, ?_⟩) ?_; (focus (decide +kernel)); (focus (decide +kernel)); (focus (decide +kernel)); (focus (intro w; go_simp; try with_reducible rfl)))
                                  all_goals (refine wpAny_ready (rs := [2]) ?_ (by simp) ?_; (focus (decide +kernel)); refine AllReady.cons rfl (fun K hK => ?_) AllReady.nil <;> (go_simp; (refine hK _ _ ?_; clear hK K)))
                                  all_goals (refine wpAny_ready (rs := [3]) ?_ (by simp) ?_; (focus (decide +kernel)); refine AllReady.cons rfl (fun K hK => ?_) AllReady.nil <;> (go_simp; (refine hK _ _ ?_; clear hK K)))
                                  all_goals (refine wpAny_ready (rs := [4]) ?_ (by simp) ?_; (focus (decide +kernel)); refine AllReady.cons rfl (fun K hK => ?_) AllReady.nil <;> (go_simp; (refine hK _ _ ?_; clear hK K)))
                                  all_goals (refine wpAny_ready (rs := [5]) ?_ (by simp) ?_; (focus (decide +kernel)); refine AllReady.cons rfl (fun K hK => ?_) AllReady.nil <;> (go_simp; (refine hK _ _ ?_; clear hK K)))
                                  all_goals (refine wpAny_ready (rs := [6]) ?_ (by simp) ?_; (focus (decide +kernel)); refine AllReady.cons rfl (fun K hK => ?_) AllReady.nil <;> (go_simp; (refine hK _ _ ?_; clear hK K)))
                                  all_goals (refine wpAny_take (i := 7) (v := .slice (some ⟨bs, os, none⟩) k kr) rfl ?_ ?_ ?_ (fun _ _ _ h => h) (Or.inl ⟨by kernel_rfl, ?_⟩) ?_; (focus (decide +kernel)); (focus (decide +kernel)); (focus (decide +kernel)); (focus (intro w; go_simp; try with_reducible rfl)))
                                  all_goals (refine wpAny_take (i := 8) (v := .int .i64 i) rfl ?_ ?_ ?_ (fun _ _ _ h => h) (Or.inl ⟨by kernel_rfl, ?_⟩) ?_; (focus (decide +kernel)); (focus (decide +kernel)); (focus (decide +kernel)); (focus (intro w; go_simp; try with_reducible rfl)))
                                  all_goals (refine wpAny_take (i := 11) (v := .slice (some ⟨bu, ou, none⟩) k ku) rfl ?_ ?_ ?_ (fun _ _ _ h => h) (Or.inl ⟨by kernel_rfl, ?_⟩) ?_; (focus (decide +kernel)); (focus (decide +kernel)); (focus (decide +kernel)); (focus (intro w; go_simp; try with_reducible rfl)))
                                  all_goals (refine wpAny_take (i := 9) (v := .pointer (some ⟨bs, os + i * 3, none⟩)) rfl ?_ ?_ ?_ (fun _ _ _ h => h) (Or.inl ⟨by kernel_rfl, ?_⟩) ?_; (focus (decide +kernel)); (focus (decide +kernel)); (focus (decide +kernel)); (focus (intro w; go_simp; try with_reducible rfl)))
                                  all_goals (refine wpAny_take (i := 12) (v := .int .i64 k) rfl ?_ ?_ ?_ (fun _ _ _ h => h) (Or.inl ⟨by kernel_rfl, ?_⟩) ?_; (focus (decide +kernel)); (focus (decide +kernel)); (focus (decide +kernel)); (focus (intro w; go_simp; try with_reducible rfl)))
                                  all_goals (refine wpAny_ready (rs := [10]) ?_ (by simp) ?_; (focus (decide +kernel)); refine AllReady.cons rfl (fun K hK => ?_) AllReady.nil <;> (go_simp; (refine hK _ _ ?_; clear hK K)))
                                  all_goals (refine wpAny_ready (rs := [13]) ?_ (by simp) ?_; (focus (decide +kernel)); refine AllReady.cons rfl (fun K hK => ?_) AllReady.nil <;> (go_simp; (first | (go_at_call 27; (with_reducible refine (HIN.out _ HM.out).mono ?_); rintro e wn ⟨rfl, hf⟩; have HM := Lib.hid (HM.out.trans hf); clear hf; obtain ⟨z0, z1, z2, z3, z4, z5, z6, z7⟩ := HKV.out _ HM.out; refine hK _ _ ?_; clear hK K))))
                                  all_goals (refine wpAny_ready (rs := [14]) ?_ (by simp) ?_; (focus (decide +kernel)); refine AllReady.cons rfl (fun K hK => ?_) AllReady.nil <;> (go_simp; (refine hK _ _ ?_; clear hK K)))
                                  all_goals (refine wpAny_ready (rs := [15]) ?_ (by simp) ?_; (focus (decide +kernel)); refine AllReady.cons rfl (fun K hK => ?_) AllReady.nil <;> (go_simp; (refine hK _ _ ?_; clear hK K)))
                                  all_goals (refine wpAny_take (i := 16) (v := undef) rfl ?_ ?_ ?_ (fun _ _ _ h => h) (Or.inr ⟨by kernel_rfl, rfl⟩) ?_; (focus (decide +kernel)); (focus (decide +kernel)); (focus (decide +kernel)))
                                  all_goals (refine wpAny_take (i := 17) (v := undef) rfl ?_ ?_ ?_ (fun _ _ _ h => h) (Or.inr ⟨by kernel_rfl, rfl⟩) ?_; (focus (decide +kernel)); (focus (decide +kernel)); (focus (decide +kernel)))
                                  all_goals (refine wpAny_take (i := 18) (v := undef) rfl ?_ ?_ ?_ (fun _ _ _ h => h) (Or.inr ⟨by kernel_rfl, rfl⟩) ?_; (focus (decide +kernel)); (focus (decide +kernel)); (focus (decide +kernel)))
                                  all_goals (refine wpAny_take (i := 22) (v := undef) rfl ?_ ?_ ?_ (fun _ _ _ h => h) (Or.inr ⟨by kernel_rfl, rfl⟩) ?_; (focus (decide +kernel)); (focus (decide +kernel)); (focus (decide +kernel)))
                                  all_goals (refine wpAny_take (i := 23) (v := undef) rfl ?_ ?_ ?_ (fun _ _ _ h => h) (Or.inr ⟨by kernel_rfl, rfl⟩) ?_; (focus (decide +kernel)); (focus (decide +kernel)); (focus (decide +kernel)))
                                  all_goals (refine wpAny_take (i := 19) (v := undef) rfl ?_ ?_ ?_ (fun _ _ _ h => h) (Or.inr ⟨by kernel_rfl, rfl⟩) ?_; (focus (decide +kernel)); (focus (decide +kernel)); (focus (decide +kernel)))
                                  all_goals (refine wpAny_take (i := 24) (v := undef) rfl ?_ ?_ ?_ (fun _ _ _ h => h) (Or.inr ⟨by kernel_rfl, rfl⟩) ?_; (focus (decide +kernel)); (focus (decide +kernel)); (focus (decide +kernel)))
                                  all_goals (refine wpAny_take (i := 20) (v := undef) rfl ?_ ?_ ?_ (fun _ _ _ h => h) (Or.inr ⟨by kernel_rfl, rfl⟩) ?_; (focus (decide +kernel)); (focus (decide +kernel)); (focus (decide +kernel)))
                                  all_goals (refine wpAny_take (i := 25) (v := undef) rfl ?_ ?_ ?_ (fun _ _ _ h => h) (Or.inr ⟨by kernel_rfl, rfl⟩) ?_; (focus (decide +kernel)); (focus (decide +kernel)); (focus (decide +kernel)))
                                  all_goals (refine wpAny_ready (rs := [21]) ?_ (by simp) ?_; (focus (decide +kernel)); refine AllReady.cons rfl (fun K hK => ?_) AllReady.nil <;> (go_simp; (refine hK _ _ ?_; clear hK K)))
                                  all_goals (refine wpAny_ready (rs := [26]) ?_ (by simp) ?_; (focus (decide +kernel)); refine AllReady.cons rfl (fun K hK => ?_) AllReady.nil <;> (go_simp; (refine hK _ _ ?_; clear hK K)))
                                  all_goals (refine wpAny_ready (rs := [27]) ?_ (by simp) ?_; (focus (decide +kernel)); refine AllReady.cons rfl (fun K hK => ?_) AllReady.nil <;> (go_simp; (refine hK _ _ ?_; clear hK K)))
                                  all_goals (refine wpAny_ready (rs := [28]) ?_ (by simp) ?_; (focus (decide +kernel)); refine AllReady.cons rfl (fun K hK => ?_) AllReady.nil <;> (go_simp; (refine hK _ _ ?_; clear hK K)))
                                  all_goals (refine wpAny_ready (rs := [29]) ?_ (by simp) ?_; (focus (decide +kernel)); refine AllReady.cons rfl (fun K hK => ?_) AllReady.nil <;> (go_simp; (refine hK _ _ ?_; clear hK K)))
                                  all_goals (refine wpAny_done (by decide +kernel) ?_ _)
                                  all_goals (try go_wp2_with fail)
                                  all_goals (go_meet; exact ⟨by rw [hk0, HO.out]; rfl, HM.out⟩)
                                | true =>
                                  have HAP := Lib.hid (HAPX.out ho)
                                  have HO := Lib.hid ho
                                  rw [ho] at HIN
                                  clear ho
                                  refine wp_region_any (by kernel_rfl) ?_
                                  change wpAny _ _ _ _ _ _ _ (World.drew _)
                                  all_goals (refine wpAny_take (i := 0) (v := .slice (some ⟨bs, os, none⟩) k kr) rfl ?_ ?_ ?_ (fun _ _ _ h => h) (Or.inl ⟨by kernel_rfl, ?_⟩) ?_; (focus (decide +kernel)); (focus (decide +kernel)); (focus (decide +kernel)); (focus (intro w; go_simp; try with_reducible rfl)))
                                  all_goals (refine wpAny_take (i := 1) (v := .int .i64 i) rfl ?_ ?_ ?_ (fun _ _ _ h => h) (Or.inl ⟨by kernel_rfl, ?_⟩) ?_; (focus (decide +kernel)); (focus (decide +kernel)); (focus (decide +kernel)); (focus (intro w; go_simp; try with_reducible rfl)))
                                  all_goals (refine wpAny_ready (rs := [2]) ?_ (by simp) ?_; (focus (decide +kernel)); refine AllReady.cons rfl (fun K hK => ?_) AllReady.nil <;> (go_simp; (refine hK _ _ ?_; clear hK K)))
                                  all_goals (refine wpAny_ready (rs := [3]) ?_ (by simp) ?_; (focus (decide +kernel)); refine AllReady.cons rfl (fun K hK => ?_) AllReady.nil <;> (go_simp; (refine hK _ _ ?_; clear hK K)))
                                  all_goals (refine wpAny_ready (rs := [4]) ?_ (by simp) ?_; (focus (decide +kernel)); refine AllReady.cons rfl (fun K hK => ?_) AllReady.nil <;> (go_simp; (refine hK _ _ ?_; clear hK K)))
                                  all_goals (refine wpAny_ready (rs := [5]) ?_ (by simp) ?_; (focus (decide +kernel)); refine AllReady.cons rfl (fun K hK => ?_) AllReady.nil <;> (go_simp; (refine hK _ _ ?_; clear hK K)))
                                  all_goals (refine wpAny_ready (rs := [6]) ?_ (by simp) ?_; (focus (decide +kernel)); refine AllReady.cons rfl (fun K hK => ?_) AllReady.nil <;> (go_simp; (refine hK _ _ ?_; clear hK K)))
                                  all_goals (refine wpAny_take (i := 7) (v := .slice (some ⟨bs, os, none⟩) k kr) rfl ?_ ?_ ?_ (fun _ _ _ h => h) (Or.inl ⟨by kernel_rfl, ?_⟩) ?_; (focus (decide +kernel)); (focus (decide +kernel)); (focus (decide +kernel)); (focus (intro w; go_simp; try with_reducible rfl)))
                                  all_goals (refine wpAny_take (i := 8) (v := .int .i64 i) rfl ?_ ?_ ?_ (fun _ _ _ h => h) (Or.inl ⟨by kernel_rfl, ?_⟩) ?_; (focus (decide +kernel)); (focus (decide +kernel)); (focus (decide +kernel)); (focus (intro w; go_simp; try with_reducible rfl)))
                                  all_goals (refine wpAny_take (i := 11) (v := .slice (some ⟨bu, ou, none⟩) k ku) rfl ?_ ?_ ?_ (fun _ _ _ h => h) (Or.inl ⟨by kernel_rfl, ?_⟩) ?_; (focus (decide +kernel)); (focus (decide +kernel)); (focus (decide +kernel)); (focus (intro w; go_simp; try with_reducible rfl)))
                                  all_goals (refine wpAny_take (i := 9) (v := .pointer (some ⟨bs, os + i * 3, none⟩)) rfl ?_ ?_ ?_ (fun _ _ _ h => h) (Or.inl ⟨by kernel_rfl, ?_⟩) ?_; (focus (decide +kernel)); (focus (decide +kernel)); (focus (decide +kernel)); (focus (intro w; go_simp; try with_reducible rfl)))
                                  all_goals (refine wpAny_take (i := 12) (v := .int .i64 k) rfl ?_ ?_ ?_ (fun _ _ _ h => h) (Or.inl ⟨by kernel_rfl, ?_⟩) ?_; (focus (decide +kernel)); (focus (decide +kernel)); (focus (decide +kernel)); (focus (intro w; go_simp; try with_reducible rfl)))
                                  all_goals (refine wpAny_ready (rs := [10]) ?_ (by simp) ?_; (focus (decide +kernel)); refine AllReady.cons rfl (fun K hK => ?_) AllReady.nil <;> (go_simp; (refine hK _ _ ?_; clear hK K)))
                                  all_goals (refine wpAny_ready (rs := [13]) ?_ (by simp) ?_; (focus (decide +kernel)); refine AllReady.cons rfl (fun K hK => ?_) AllReady.nil <;> (go_simp; (first | (go_at_call 27; (with_reducible refine (HIN.out _ HM.out).mono ?_); rintro e wn ⟨rfl, hf⟩; have HM := Lib.hid (HM.out.trans hf); clear hf; obtain ⟨z0, z1, z2, z3, z4, z5, z6, z7⟩ := HKV.out _ HM.out; refine hK _ _ ?_; clear hK K))))
                                  all_goals (refine wpAny_ready (rs := [14]) ?_ (by simp) ?_; (focus (decide +kernel)); refine AllReady.cons rfl (fun K hK => ?_) AllReady.nil <;> (go_simp; (refine hK _ _ ?_; clear hK K)))
                                  all_goals (refine wpAny_ready (rs := [15]) ?_ (by simp) ?_; (focus (decide +kernel)); refine AllReady.cons rfl (fun K hK => ?_) AllReady.nil <;> (go_simp; (refine hK _ _ ?_; clear hK K)))
                                  all_goals (refine wpAny_take (i := 16) (v := .slice (some ⟨bu, ou, none⟩) k ku) rfl ?_ ?_ ?_ (fun _ _ _ h => h) (Or.inl ⟨by kernel_rfl, ?_⟩) ?_; (focus (decide +kernel)); (focus (decide +kernel)); (focus (decide +kernel)); (focus (intro w; go_simp; try with_reducible rfl)))
                                  all_goals (refine wpAny_take (i := 17) (v := .slice (some ⟨bs, os, none⟩) k kr) rfl ?_ ?_ ?_ (fun _ _ _ h => h) (Or.inl ⟨by kernel_rfl, ?_⟩) ?_; (focus (decide +kernel)); (focus (decide +kernel)); (focus (decide +kernel)); (focus (intro w; go_simp; try with_reducible rfl)))
                                  all_goals (refine wpAny_take (i := 18) (v := .int .i64 i) rfl ?_ ?_ ?_ (fun _ _ _ h => h) (Or.inl ⟨by kernel_rfl, ?_⟩) ?_; (focus (decide +kernel)); (focus (decide +kernel)); (focus (decide +kernel)); (focus (intro w; go_simp; try with_reducible rfl)))
                                  all_goals (refine wpAny_take (i := 22) (v := .slice (some ⟨bu, ou, none⟩) k ku) rfl ?_ ?_ ?_ (fun _ _ _ h => h) (Or.inl ⟨by kernel_rfl, ?_⟩) ?_; (focus (decide +kernel)); (focus (decide +kernel)); (focus (decide +kernel)); (focus (intro w; go_simp; try with_reducible rfl)))
                                  all_goals (refine wpAny_take (i := 23) (v := .int .i64 i) rfl ?_ ?_ ?_ (fun _ _ _ h => h) (Or.inl ⟨by kernel_rfl, ?_⟩) ?_; (focus (decide +kernel)); (focus (decide +kernel)); (focus (decide +kernel)); (focus (intro w; go_simp; try with_reducible rfl)))
                                  all_goals (refine wpAny_take (i := 19) (v := .pointer (some ⟨bs, os + i * 3, none⟩)) rfl ?_ ?_ ?_ (fun _ _ _ h => h) (Or.inl ⟨by kernel_rfl, ?_⟩) ?_; (focus (decide +kernel)); (focus (decide +kernel)); (focus (decide +kernel)); (focus (intro w; go_simp; try with_reducible rfl)))
                                  all_goals (refine wpAny_take (i := 24) (v := .pointer (some ⟨bu, ou + i * 3, none⟩)) rfl ?_ ?_ ?_ (fun _ _ _ h => h) (Or.inl ⟨by kernel_rfl, ?_⟩) ?_; (focus (decide +kernel)); (focus (decide +kernel)); (focus (decide +kernel)); (focus (intro w; go_simp; try with_reducible rfl)))
                                  all_goals (refine wpAny_ready (rs := [20, 25]) ?_ (by simp) ?_; (focus (decide +kernel)); refine AllReady.cons rfl (fun K hK => ?_) (AllReady.cons rfl (fun K hK => ?_) AllReady.nil) <;> (go_simp; (refine hK _ _ ?_; clear hK K)))
                                  all_goals (first | (refine wpAny_ready (rs := [21, 25]) ?_ (by simp) ?_; (focus (decide +kernel)); refine AllReady.cons rfl (fun K hK => ?_) (AllReady.cons rfl (fun K hK => ?_) AllReady.nil) <;> (go_simp; (first | (go_at_call 19; (with_reducible refine (HAP.out _ HM.out).mono ?_); rintro e wn ⟨hf, dsn, rfl, hty⟩; obtain ⟨pn, cn, rfl, _⟩ := hty.shape; have HTA := Lib.hid hty; clear hty; have HM := Lib.hid (HM.out.trans hf); clear hf; obtain ⟨z0, z1, z2, z3, z4, z5, z6, z7⟩ := HKV.out _ HM.out; refine hK _ _ ?_; clear hK K) | (refine hK _ _ ?_; clear hK K)))) | (refine wpAny_ready (rs := [20]) ?_ (by simp) ?_; (focus (decide +kernel)); refine AllReady.cons rfl (fun K hK => ?_) AllReady.nil <;> (go_simp; (refine hK _ _ ?_; clear hK K))))
                                  all_goals (first | (refine wpAny_ready (rs := [25]) ?_ (by simp) ?_; (focus (decide +kernel)); refine AllReady.cons rfl (fun K hK => ?_) AllReady.nil <;> (go_simp; (refine hK _ _ ?_; clear hK K))) | (refine wpAny_ready (rs := [21]) ?_ (by simp) ?_; (focus (decide +kernel)); refine AllReady.cons rfl (fun K hK => ?_) AllReady.nil <;> (go_simp; (first | (go_at_call 19; (with_reducible refine (HAP.out _ HM.out).mono ?_); rintro e wn ⟨hf, dsn, rfl, hty⟩; obtain ⟨pn, cn, rfl, _⟩ := hty.shape; have HTA := Lib.hid hty; clear hty; have HM := Lib.hid (HM.out.trans hf); clear hf; obtain ⟨z0, z1, z2, z3, z4, z5, z6, z7⟩ := HKV.out _ HM.out; refine hK _ _ ?_; clear hK K)))))
                                  all_goals (refine wpAny_ready (rs := [26]) ?_ (by simp) ?_; (focus (decide +kernel)); refine AllReady.cons rfl (fun K hK => ?_) AllReady.nil <;> (go_simp; (first | (go_at_call 16; (with_reducible refine (HSM.out _ R1 g _ _ HTA.out (HGG.out _ HM.out)).mono ?_); rintro e wn ⟨rfl, hf⟩; have HM := Lib.hid (HM.out.trans hf); clear hf; obtain ⟨z0, z1, z2, z3, z4, z5, z6, z7⟩ := HKV.out _ HM.out; refine hK _ _ ?_; clear hK K))))
                                  all_goals (refine wpAny_ready (rs := [27]) ?_ (by simp) ?_; (focus (decide +kernel)); refine AllReady.cons rfl (fun K hK => ?_) AllReady.nil <;> (go_simp; (refine hK _ _ ?_; clear hK K)))
                                  all_goals (refine wpAny_ready (rs := [28]) ?_ (by simp) ?_; (focus (decide +kernel)); refine AllReady.cons rfl (fun K hK => ?_) AllReady.nil <;> (go_simp; (refine hK _ _ ?_; clear hK K)))
                                  all_goals (refine wpAny_ready (rs := [29]) ?_ (by simp) ?_; (focus (decide +kernel)); refine AllReady.cons rfl (fun K hK => ?_) AllReady.nil <;> (go_simp; (refine hK _ _ ?_; clear hK K)))
                                  all_goals (refine wpAny_done (by decide +kernel) ?_ _)
                                  all_goals (try go_wp2_with fail)
                                  all_goals (go_meet; exact ⟨by rw [hk0, HO.out]; rfl, HM.out⟩)
                            case rest =>
                            obtain ⟨rfl, hf7⟩ := hcut
                            obtain ⟨w8, hw8⟩ : ∃ v : World, v = wc := ⟨_, rfl⟩
                            subst hw8
                            have HX8 := Lib.hid hf7
                            clear hf7
                            have hB : ((kd t != 0) && (!(over k t) || !(same R1 g))) = false := by
                              rcases HONE.out with rfl | ⟨h1, rfl⟩
                              · rfl
                              · rw [h1, Un.same_refl]; simp
                            rw [hB]
                            clear hB
                            go_wp2_with fail
                            go_roundw
                            case rel => exact ⟨i + 1, by go_num, by omega, HX8⟩
                            case measure => simp [RowKit.intOf]; omega
                          case neg =>
                            have hd2 : decide ((i : Int) < (k : Int)) = false := by simp; omega
                            have hd3 : decide (i < k) = false := by simpa using hlt
                            go_wp2_with fail
                            go_ret
                            exact ⟨rfl, (HF2.out.trans HXU.out).trans HFR.out⟩
end Go.Proofs.Ytkhbgdhgjbnhpaa
