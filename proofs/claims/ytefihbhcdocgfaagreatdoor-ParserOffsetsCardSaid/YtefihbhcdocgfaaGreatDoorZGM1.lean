/-
  The walk of the reader of items.
-/
import Derived.Test.YtefihbhcdocgfaaGreatDoorZGM0
import Derived.Deep.RegionLaw
set_option linter.unusedVariables false
set_option linter.unusedSimpArgs false
set_option linter.unusedSectionVars false

namespace Go.Proofs.YtefihbhcdocgfaaGreatDoor
open Go.RowKit Go.Lib
open Lx (Tk)
open Px (Txt TyE VarD DataD TraitD BoundD ImplD ArgD ExprD StmtD ArmD FuncD ModD)


set_option maxRecDepth 100000 in
set_option maxHeartbeats 3200000 in
theorem item_any (c : Ctx) (M : ModD) (w0 : World) (ts0 : List Tk) (h0 : Inv c ts0 w0) (ts : List Tk) (w : World) (h : Inv c ts w) (b : Nat) (hap : c.Apart b) (hb : b < w0.heap.size) (vu vd vt vi vf : Value) (hF : Fr [c.R, b] w0 w)
    (hD : Blk w b 29 #[.string ⟨M.name.toArray⟩, vu, vd, vt, vi, vf]) (hM : ModAt w w0.heap.size M vu vd vt vi vf) (n : Nat) (hm : ts.length < n) (hlen : M.datas.length + M.traits.length + M.impls.length + M.funcs.length ≤ 6000) :
    Calls Tryz.prog 66 #[.pointer (some ⟨c.R, 0, none⟩), .pointer (some ⟨b, 0, none⟩)] w (RPM c b w0 (Px.item c.size n M ts)) := by
  obtain ⟨pu, cu, rfl⟩ := hM.u.shape
  obtain ⟨pd, cd, rfl⟩ := hM.d.shape
  obtain ⟨pt, ct, rfl⟩ := hM.t.shape
  obtain ⟨pi, ci, rfl⟩ := hM.i.shape
  obtain ⟨pf, cf, rfl⟩ := hM.f.shape
  have H := Lib.hid h
  have H0 := Lib.hid h0
  have HD0 := Lib.hid hD
  have HM0 := Lib.hid hM
  have HF0 := Lib.hid hF
  have HR0 := H.out.lt.1
  have HRw := h0.lt.1
  have hb0 : b ≠ c.R := hap.1
  have hz0 : w0.heap.size ≤ w.heap.size := hF.size
  clear h hD hM hF h0
  go_enter Tryz.func66, Tryz.ntmps66
  go_wp2_with fail
  refine (offset_any c ts _ H.out).mono ?_
  rintro e w' ⟨rfl, rfl⟩
  go_wp2_with fail
  refine (expect_any c ts [[100, 97, 116, 97], [116, 114, 97, 105, 116], [105, 109, 112, 108], [102, 110]] _ _ 4 (H.out.alloc _) rfl (by exact Blk.new_at (by simp)) rfl (by decide)).mono ?_
  rintro e w1 hp
  rcases hp.cases with ⟨x1, ts1, v1, hq1, hf, hi, rfl, hv⟩ | ⟨ts1, hq1, hf, hi, rfl⟩
  · clear hp
    obtain rfl := hv
    have hx1 := expect_mem hq1.out
    have hT : Fr [c.R] w w1 := ((Fr.refl _ _).alloc _).trans hf
    have HI1 := Lib.hid hi
    have HF1 := Lib.hid (HF0.out.trans hT.wide)
    have hD1 := HD0.out.keep hT (by simpa using hb0)
    have HD1 := Lib.hid hD1
    have HM1 := Lib.hid (HM0.out.keep hT (by simpa using HRw))
    have hz1 : w.heap.size ≤ w1.heap.size := hT.size
    have hl1 : ts1.length < ts.length := expect_len hq1.out rfl
    have hbl : b < w1.heap.size := hD1.lt
    clear hT hf hi hD1
    simp only [List.mem_cons, List.not_mem_nil, or_false] at hx1
    rcases hx1 with rfl | rfl | rfl | rfl
    · have d2 : w1.cell? ⟨b, 2, none⟩ = some (.slice pd M.datas.length cd) := HD1.out.cell 2
      have HSP : Hid (∀ (x : DataD) (r : List Tk), Px.data c.size n (offOf c.size ts) ts1 = .ok x r → Px.item c.size n M ts = .ok { M with datas := M.datas ++ [x] } r) := Lib.hid (fun x r hx => by simp [Px.item, bind, Px.Rd.bind, offset_res, hq1.out, hx, pure, Px.Rd.pure])
      have HBAD : Hid (∀ ts3 w3, Px.data c.size n (offOf c.size ts) ts1 = .bad ts3 → Fr [c.R] w1.drew w3 → Inv c ts3 w3 → RPM c b w0 (Px.item c.size n M ts) (.panicked [failE c ts3]) w3) := Lib.hid (fun ts3 w3 hx hf3 hi3 => RPM.bad (by simp [Px.item, bind, Px.Rd.bind, offset_res, hq1.out, hx]) (HF1.out.drew.trans hf3.wide) hi3)
      obtain ⟨i0, hi, iz0, iz1, iz2⟩ := info_parts info_data
      have HINF := Lib.hid hi
      clear hi
      go_wp2_with fail
      go_region_law (first | (refine step_append_list _ (by rfl) _ _ 24 (by rfl) w0.heap.size 54 i0 _ 5 80 Tryz.underlying24 HINF.out iz0 iz1 iz2 rfl (by decide) (.slice pd M.datas.length cd) M.datas.length 1 (rowsQ dataQ M.datas) (dataQ x) (by rfl) G1.out ⟨w3.heap.size, 0, none⟩ 1 [.string s3_0, .slice p3_1 n3_1 c3_1, .slice p3_2 n3_2 c3_2, .int .i64 i3_3, .int .i64 i3_4] (by rfl) (by decide) rfl G2.out G3.out (by omega) (by decide) g4 ?_; intro p' c' w4 hL4 hg4; have hown : ∀ k, (.slice pd M.datas.length cd : Value).ownBlock = some k → w0.heap.size ≤ k := (fun k e => (HM1.out.d.own k e).1); have hD4 := Lib.hid (((HD1.out.keep ((Fr.refl [c.R] w1).drew.trans hf3) (by simpa using hb0)).alloc (.cells #[.string s3_0, .slice p3_1 n3_1 c3_1, .slice p3_2 n3_2 c3_2, .int .i64 i3_3, .int .i64 i3_4] 54)).grown hg4 (fun k e => by have := hown k e; omega)); have hk4 : w4.cell? ⟨b, 2, none⟩ = some (.slice pd M.datas.length cd) := hD4.out.cell 2; have hf4 : w4.frozen? ⟨b, 2, none⟩ = false := hD4.out.frozen 2; have HL4 := Lib.hid hL4; have HG4 := Lib.hid hg4; clear hL4 hg4) | (go_simp; go_at_call 100; refine Calls.both (data_any c (offOf c.size ts) ts1 _ HI1.out.drew n (type_any c n) (by omega)) (fun ts3 w3 h1 h2 h3 => And.intro rfl (HBAD.out ts3 w3 h1 h2 h3)) ?_; intro x ts3 v3 w3 hq3 hf3 hi3 hv3; obtain ⟨cs, rfl, hrep⟩ := hv3; obtain ⟨y0, y1, y2, y3, y4, rfl⟩ := cells_5 (hrep.len.trans (len_dataQ x)); obtain ⟨s3_0, rfl⟩ := hrep.kind 0 rfl (kind_dataQ x 0 rfl); obtain ⟨p3_1, n3_1, c3_1, rfl⟩ := hrep.kind 1 rfl (kind_dataQ x 1 rfl); obtain ⟨p3_2, n3_2, c3_2, rfl⟩ := hrep.kind 2 rfl (kind_dataQ x 2 rfl); obtain ⟨i3_3, rfl⟩ := hrep.kind 3 rfl (kind_dataQ x 3 rfl); obtain ⟨i3_4, rfl⟩ := hrep.kind 4 rfl (kind_dataQ x 4 rfl);  have hk3 : w3.cell? ⟨b, 2, none⟩ = some (.slice pd M.datas.length cd) := (hf3.cell HD1.out.lt (by simpa using hb0) 2).trans d2; have h9 : w1.heap.size ≤ w3.heap.size := hf3.size; have hz3 : b < w3.heap.size := (by omega); obtain ⟨g1, g2, g3, g4⟩ := append_ready (news := [.string s3_0, .slice p3_1 n3_1 c3_1, .slice p3_2 n3_2 c3_2, .int .i64 i3_3, .int .i64 i3_4]) HM1.out.d (Nat.le_refl _) ((Fr.refl [c.R] w1).drew.trans hf3) HRw (by omega) hrep 54; have G1 := Lib.hid g1; have G2 := Lib.hid g2; have G3 := Lib.hid g3; have HQ3 := Lib.hid hq3.out; clear g1 g2 g3 hrep hq3))
      all_goals
        have hz4 : w0.heap.size ≤ w4.heap.size := by have h1 := HG4.out.size; simp at h1; omega
        have hI4 := (hi3.alloc (.cells #[.string s3_0, .slice p3_1 n3_1 c3_1, .slice p3_2 n3_2 c3_2, .int .i64 i3_3, .int .i64 i3_4] 54)).grown H0.out HG4.out hown
        have hF4 := ((HF1.out.drew.trans hf3.wide).alloc (.cells #[.string s3_0, .slice p3_1 n3_1 c3_1, .slice p3_2 n3_2 c3_2, .int .i64 i3_3, .int .i64 i3_4] 54)).grown HG4.out hown
        have hM4 := ((HM1.out.keep ((Fr.refl [c.R] w1).drew.trans hf3) (by simpa using HRw)).keep (X := []) ((Fr.refl _ _).alloc (.cells #[.string s3_0, .slice p3_1 n3_1 c3_1, .slice p3_2 n3_2 c3_2, .int .i64 i3_3, .int .i64 i3_4] 54)) (by simp)).moreD HG4.out HL4.out
        have hfs : Fr [b] w4 (w4.setCell ⟨b, 2, none⟩ (.slice p' (M.datas.length + 1) c')) := (Fr.refl _ _).setCell (.inl (by simp)) _
        have HF7 := Lib.hid (hF4.trans (hfs.mono (Y := [c.R, b]) (fun k _ hk => by simp at hk; simp [hk])))
        have HI7 := Lib.hid (hI4.frp hap hfs)
        have HD7 := Lib.hid (Blk.set hD4.out 2 (.slice p' (M.datas.length + 1) c'))
        have HM7 := Lib.hid (hM4.keep hfs (by simpa using hb))
        clear hfs hI4 hF4 hM4 hf3 hi3 hk3 hk4 hf4 hown
        try go_wp2_with fail
        first | go_end0 | refine bodyPost_ret (results_none rfl _ _ _) rfl ?_
        exact RPM.ok (HSP.out x _ HQ3.out) HF7.out HI7.out HD7.out HM7.out
    · have d3 : w1.cell? ⟨b, 3, none⟩ = some (.slice pt M.traits.length ct) := HD1.out.cell 3
      have HSP : Hid (∀ (x : TraitD) (r : List Tk), Px.trait (offOf c.size ts) ts1 = .ok x r → Px.item c.size n M ts = .ok { M with traits := M.traits ++ [x] } r) := Lib.hid (fun x r hx => by simp [Px.item, bind, Px.Rd.bind, offset_res, hq1.out, hx, pure, Px.Rd.pure])
      have HBAD : Hid (∀ ts3 w3, Px.trait (offOf c.size ts) ts1 = .bad ts3 → Fr [c.R] w1.drew w3 → Inv c ts3 w3 → RPM c b w0 (Px.item c.size n M ts) (.panicked [failE c ts3]) w3) := Lib.hid (fun ts3 w3 hx hf3 hi3 => RPM.bad (by simp [Px.item, bind, Px.Rd.bind, offset_res, hq1.out, hx]) (HF1.out.drew.trans hf3.wide) hi3)
      obtain ⟨i0, hi, iz0, iz1, iz2⟩ := info_parts info_trait
      have HINF := Lib.hid hi
      clear hi
      go_wp2_with fail
      go_region_law (first | (refine step_append_list _ (by rfl) _ _ 25 (by rfl) w0.heap.size 59 i0 _ 2 24 Tryz.underlying25 HINF.out iz0 iz1 iz2 rfl (by decide) (.slice pt M.traits.length ct) M.traits.length 1 (rowsQ traitQ M.traits) (traitQ x) (by rfl) G1.out ⟨w3.heap.size, 0, none⟩ 1 [.string s3_0, .int .i64 i3_1] (by rfl) (by decide) rfl G2.out G3.out (by omega) (by decide) g4 ?_; intro p' c' w4 hL4 hg4; have hown : ∀ k, (.slice pt M.traits.length ct : Value).ownBlock = some k → w0.heap.size ≤ k := (fun k e => (HM1.out.t.own k e).1); have hD4 := Lib.hid (((HD1.out.keep ((Fr.refl [c.R] w1).drew.trans hf3) (by simpa using hb0)).alloc (.cells #[.string s3_0, .int .i64 i3_1] 59)).grown hg4 (fun k e => by have := hown k e; omega)); have hk4 : w4.cell? ⟨b, 3, none⟩ = some (.slice pt M.traits.length ct) := hD4.out.cell 3; have hf4 : w4.frozen? ⟨b, 3, none⟩ = false := hD4.out.frozen 3; have HL4 := Lib.hid hL4; have HG4 := Lib.hid hg4; clear hL4 hg4) | (go_simp; go_at_call 101; refine Calls.both (trait_any c (offOf c.size ts) ts1 _ HI1.out.drew) (fun ts3 w3 h1 h2 h3 => And.intro rfl (HBAD.out ts3 w3 h1 h2 h3)) ?_; intro x ts3 v3 w3 hq3 hf3 hi3 hv3; obtain ⟨cs, rfl, hrep⟩ := hv3; obtain ⟨y0, y1, rfl⟩ := cells_2 (hrep.len.trans (len_traitQ x)); obtain ⟨s3_0, rfl⟩ := hrep.kind 0 rfl (kind_traitQ x 0 rfl); obtain ⟨i3_1, rfl⟩ := hrep.kind 1 rfl (kind_traitQ x 1 rfl);  have hk3 : w3.cell? ⟨b, 3, none⟩ = some (.slice pt M.traits.length ct) := (hf3.cell HD1.out.lt (by simpa using hb0) 3).trans d3; have h9 : w1.heap.size ≤ w3.heap.size := hf3.size; have hz3 : b < w3.heap.size := (by omega); obtain ⟨g1, g2, g3, g4⟩ := append_ready (news := [.string s3_0, .int .i64 i3_1]) HM1.out.t (Nat.le_refl _) ((Fr.refl [c.R] w1).drew.trans hf3) HRw (by omega) hrep 59; have G1 := Lib.hid g1; have G2 := Lib.hid g2; have G3 := Lib.hid g3; have HQ3 := Lib.hid hq3.out; clear g1 g2 g3 hrep hq3))
      all_goals
        have hz4 : w0.heap.size ≤ w4.heap.size := by have h1 := HG4.out.size; simp at h1; omega
        have hI4 := (hi3.alloc (.cells #[.string s3_0, .int .i64 i3_1] 59)).grown H0.out HG4.out hown
        have hF4 := ((HF1.out.drew.trans hf3.wide).alloc (.cells #[.string s3_0, .int .i64 i3_1] 59)).grown HG4.out hown
        have hM4 := ((HM1.out.keep ((Fr.refl [c.R] w1).drew.trans hf3) (by simpa using HRw)).keep (X := []) ((Fr.refl _ _).alloc (.cells #[.string s3_0, .int .i64 i3_1] 59)) (by simp)).moreT HG4.out HL4.out
        have hfs : Fr [b] w4 (w4.setCell ⟨b, 3, none⟩ (.slice p' (M.traits.length + 1) c')) := (Fr.refl _ _).setCell (.inl (by simp)) _
        have HF7 := Lib.hid (hF4.trans (hfs.mono (Y := [c.R, b]) (fun k _ hk => by simp at hk; simp [hk])))
        have HI7 := Lib.hid (hI4.frp hap hfs)
        have HD7 := Lib.hid (Blk.set hD4.out 3 (.slice p' (M.traits.length + 1) c'))
        have HM7 := Lib.hid (hM4.keep hfs (by simpa using hb))
        clear hfs hI4 hF4 hM4 hf3 hi3 hk3 hk4 hf4 hown
        try go_wp2_with fail
        first | go_end0 | refine bodyPost_ret (results_none rfl _ _ _) rfl ?_
        exact RPM.ok (HSP.out x _ HQ3.out) HF7.out HI7.out HD7.out HM7.out
    · have d4 : w1.cell? ⟨b, 4, none⟩ = some (.slice pi M.impls.length ci) := HD1.out.cell 4
      have HSP : Hid (∀ (x : ImplD) (r : List Tk), Px.implementation c.size n (offOf c.size ts) ts1 = .ok x r → Px.item c.size n M ts = .ok { M with impls := M.impls ++ [x] } r) := Lib.hid (fun x r hx => by simp [Px.item, bind, Px.Rd.bind, offset_res, hq1.out, hx, pure, Px.Rd.pure])
      have HBAD : Hid (∀ ts3 w3, Px.implementation c.size n (offOf c.size ts) ts1 = .bad ts3 → Fr [c.R] w1.drew w3 → Inv c ts3 w3 → RPM c b w0 (Px.item c.size n M ts) (.panicked [failE c ts3]) w3) := Lib.hid (fun ts3 w3 hx hf3 hi3 => RPM.bad (by simp [Px.item, bind, Px.Rd.bind, offset_res, hq1.out, hx]) (HF1.out.drew.trans hf3.wide) hi3)
      obtain ⟨i0, hi, iz0, iz1, iz2⟩ := info_parts info_impl
      have HINF := Lib.hid hi
      clear hi
      go_wp2_with fail
      go_region_law (first | (refine step_append_list _ (by rfl) _ _ 26 (by rfl) w0.heap.size 64 i0 _ 8 136 Tryz.underlying26 HINF.out iz0 iz1 iz2 rfl (by decide) (.slice pi M.impls.length ci) M.impls.length 1 (rowsQ implQ M.impls) (implQ x) (by rfl) G1.out ⟨w3.heap.size, 0, none⟩ 1 [.string s3_0, .slice p3_1 n3_1 c3_1, .slice p3_2 n3_2 c3_2, .string s3_3, .slice p3_4 n3_4 c3_4, .int .i64 i3_5, .string s3_6, .int .i64 i3_7] (by rfl) (by decide) rfl G2.out G3.out (by omega) (by decide) g4 ?_; intro p' c' w4 hL4 hg4; have hown : ∀ k, (.slice pi M.impls.length ci : Value).ownBlock = some k → w0.heap.size ≤ k := (fun k e => (HM1.out.i.own k e).1); have hD4 := Lib.hid (((HD1.out.keep ((Fr.refl [c.R] w1).drew.trans hf3) (by simpa using hb0)).alloc (.cells #[.string s3_0, .slice p3_1 n3_1 c3_1, .slice p3_2 n3_2 c3_2, .string s3_3, .slice p3_4 n3_4 c3_4, .int .i64 i3_5, .string s3_6, .int .i64 i3_7] 64)).grown hg4 (fun k e => by have := hown k e; omega)); have hk4 : w4.cell? ⟨b, 4, none⟩ = some (.slice pi M.impls.length ci) := hD4.out.cell 4; have hf4 : w4.frozen? ⟨b, 4, none⟩ = false := hD4.out.frozen 4; have HL4 := Lib.hid hL4; have HG4 := Lib.hid hg4; clear hL4 hg4) | (go_simp; go_at_call 102; refine Calls.both (implementation_any c (offOf c.size ts) ts1 _ HI1.out.drew n (type_any c n) (by omega)) (fun ts3 w3 h1 h2 h3 => And.intro rfl (HBAD.out ts3 w3 h1 h2 h3)) ?_; intro x ts3 v3 w3 hq3 hf3 hi3 hv3; obtain ⟨cs, rfl, hrep⟩ := hv3; obtain ⟨y0, y1, y2, y3, y4, y5, y6, y7, rfl⟩ := cells_8 (hrep.len.trans (len_implQ x)); obtain ⟨s3_0, rfl⟩ := hrep.kind 0 rfl (kind_implQ x 0 rfl); obtain ⟨p3_1, n3_1, c3_1, rfl⟩ := hrep.kind 1 rfl (kind_implQ x 1 rfl); obtain ⟨p3_2, n3_2, c3_2, rfl⟩ := hrep.kind 2 rfl (kind_implQ x 2 rfl); obtain ⟨s3_3, rfl⟩ := hrep.kind 3 rfl (kind_implQ x 3 rfl); obtain ⟨p3_4, n3_4, c3_4, rfl⟩ := hrep.kind 4 rfl (kind_implQ x 4 rfl); obtain ⟨i3_5, rfl⟩ := hrep.kind 5 rfl (kind_implQ x 5 rfl); obtain ⟨s3_6, rfl⟩ := hrep.kind 6 rfl (kind_implQ x 6 rfl); obtain ⟨i3_7, rfl⟩ := hrep.kind 7 rfl (kind_implQ x 7 rfl);  have hk3 : w3.cell? ⟨b, 4, none⟩ = some (.slice pi M.impls.length ci) := (hf3.cell HD1.out.lt (by simpa using hb0) 4).trans d4; have h9 : w1.heap.size ≤ w3.heap.size := hf3.size; have hz3 : b < w3.heap.size := (by omega); obtain ⟨g1, g2, g3, g4⟩ := append_ready (news := [.string s3_0, .slice p3_1 n3_1 c3_1, .slice p3_2 n3_2 c3_2, .string s3_3, .slice p3_4 n3_4 c3_4, .int .i64 i3_5, .string s3_6, .int .i64 i3_7]) HM1.out.i (Nat.le_refl _) ((Fr.refl [c.R] w1).drew.trans hf3) HRw (by omega) hrep 64; have G1 := Lib.hid g1; have G2 := Lib.hid g2; have G3 := Lib.hid g3; have HQ3 := Lib.hid hq3.out; clear g1 g2 g3 hrep hq3))
      all_goals
        have hz4 : w0.heap.size ≤ w4.heap.size := by have h1 := HG4.out.size; simp at h1; omega
        have hI4 := (hi3.alloc (.cells #[.string s3_0, .slice p3_1 n3_1 c3_1, .slice p3_2 n3_2 c3_2, .string s3_3, .slice p3_4 n3_4 c3_4, .int .i64 i3_5, .string s3_6, .int .i64 i3_7] 64)).grown H0.out HG4.out hown
        have hF4 := ((HF1.out.drew.trans hf3.wide).alloc (.cells #[.string s3_0, .slice p3_1 n3_1 c3_1, .slice p3_2 n3_2 c3_2, .string s3_3, .slice p3_4 n3_4 c3_4, .int .i64 i3_5, .string s3_6, .int .i64 i3_7] 64)).grown HG4.out hown
        have hM4 := ((HM1.out.keep ((Fr.refl [c.R] w1).drew.trans hf3) (by simpa using HRw)).keep (X := []) ((Fr.refl _ _).alloc (.cells #[.string s3_0, .slice p3_1 n3_1 c3_1, .slice p3_2 n3_2 c3_2, .string s3_3, .slice p3_4 n3_4 c3_4, .int .i64 i3_5, .string s3_6, .int .i64 i3_7] 64)) (by simp)).moreI HG4.out HL4.out
        have hfs : Fr [b] w4 (w4.setCell ⟨b, 4, none⟩ (.slice p' (M.impls.length + 1) c')) := (Fr.refl _ _).setCell (.inl (by simp)) _
        have HF7 := Lib.hid (hF4.trans (hfs.mono (Y := [c.R, b]) (fun k _ hk => by simp at hk; simp [hk])))
        have HI7 := Lib.hid (hI4.frp hap hfs)
        have HD7 := Lib.hid (Blk.set hD4.out 4 (.slice p' (M.impls.length + 1) c'))
        have HM7 := Lib.hid (hM4.keep hfs (by simpa using hb))
        clear hfs hI4 hF4 hM4 hf3 hi3 hk3 hk4 hf4 hown
        try go_wp2_with fail
        first | go_end0 | refine bodyPost_ret (results_none rfl _ _ _) rfl ?_
        exact RPM.ok (HSP.out x _ HQ3.out) HF7.out HI7.out HD7.out HM7.out
    · have d5 : w1.cell? ⟨b, 5, none⟩ = some (.slice pf M.funcs.length cf) := HD1.out.cell 5
      have HSP : Hid (∀ (x : FuncD) (r : List Tk), Px.function c.size n (offOf c.size ts) ts1 = .ok x r → Px.item c.size n M ts = .ok { M with funcs := M.funcs ++ [x] } r) := Lib.hid (fun x r hx => by simp [Px.item, bind, Px.Rd.bind, offset_res, hq1.out, hx, pure, Px.Rd.pure])
      have HBAD : Hid (∀ ts3 w3, Px.function c.size n (offOf c.size ts) ts1 = .bad ts3 → Fr [c.R] w1.drew w3 → Inv c ts3 w3 → RPM c b w0 (Px.item c.size n M ts) (.panicked [failE c ts3]) w3) := Lib.hid (fun ts3 w3 hx hf3 hi3 => RPM.bad (by simp [Px.item, bind, Px.Rd.bind, offset_res, hq1.out, hx]) (HF1.out.drew.trans hf3.wide) hi3)
      obtain ⟨i0, hi, iz0, iz1, iz2⟩ := info_parts info_func
      have HINF := Lib.hid hi
      clear hi
      go_wp2_with fail
      go_region_law (first | (refine step_append_list _ (by rfl) _ _ 27 (by rfl) w0.heap.size 68 i0 _ 10 192 Tryz.underlying27 HINF.out iz0 iz1 iz2 rfl (by decide) (.slice pf M.funcs.length cf) M.funcs.length 1 (rowsQ funcQ M.funcs) (funcQ x) (by rfl) G1.out ⟨w3.heap.size, 0, none⟩ 1 [.string s3_0, .slice p3_1 n3_1 c3_1, .slice p3_2 n3_2 c3_2, .slice p3_3 n3_3 c3_3, .slice p3_4 n3_4 c3_4, .string s3_5, .slice p3_6 n3_6 c3_6, .int .i64 i3_7, .slice p3_8 n3_8 c3_8, .int .i64 i3_9] (by rfl) (by decide) rfl G2.out G3.out (by omega) (by decide) g4 ?_; intro p' c' w4 hL4 hg4; have hown : ∀ k, (.slice pf M.funcs.length cf : Value).ownBlock = some k → w0.heap.size ≤ k := (fun k e => (HM1.out.f.own k e).1); have hD4 := Lib.hid (((HD1.out.keep ((Fr.refl [c.R] w1).drew.trans hf3) (by simpa using hb0)).alloc (.cells #[.string s3_0, .slice p3_1 n3_1 c3_1, .slice p3_2 n3_2 c3_2, .slice p3_3 n3_3 c3_3, .slice p3_4 n3_4 c3_4, .string s3_5, .slice p3_6 n3_6 c3_6, .int .i64 i3_7, .slice p3_8 n3_8 c3_8, .int .i64 i3_9] 68)).grown hg4 (fun k e => by have := hown k e; omega)); have hk4 : w4.cell? ⟨b, 5, none⟩ = some (.slice pf M.funcs.length cf) := hD4.out.cell 5; have hf4 : w4.frozen? ⟨b, 5, none⟩ = false := hD4.out.frozen 5; have HL4 := Lib.hid hL4; have HG4 := Lib.hid hg4; clear hL4 hg4) | (go_simp; go_at_call 103; refine Calls.both (function_any c (offOf c.size ts) ts1 _ HI1.out.drew n (by omega)) (fun ts3 w3 h1 h2 h3 => And.intro rfl (HBAD.out ts3 w3 h1 h2 h3)) ?_; intro x ts3 v3 w3 hq3 hf3 hi3 hv3; obtain ⟨cs, rfl, hrep⟩ := hv3; obtain ⟨y0, y1, y2, y3, y4, y5, y6, y7, y8, y9, rfl⟩ := cells_10 (hrep.len.trans (len_funcQ x)); obtain ⟨s3_0, rfl⟩ := hrep.kind 0 rfl (kind_funcQ x 0 rfl); obtain ⟨p3_1, n3_1, c3_1, rfl⟩ := hrep.kind 1 rfl (kind_funcQ x 1 rfl); obtain ⟨p3_2, n3_2, c3_2, rfl⟩ := hrep.kind 2 rfl (kind_funcQ x 2 rfl); obtain ⟨p3_3, n3_3, c3_3, rfl⟩ := hrep.kind 3 rfl (kind_funcQ x 3 rfl); obtain ⟨p3_4, n3_4, c3_4, rfl⟩ := hrep.kind 4 rfl (kind_funcQ x 4 rfl); obtain ⟨s3_5, rfl⟩ := hrep.kind 5 rfl (kind_funcQ x 5 rfl); obtain ⟨p3_6, n3_6, c3_6, rfl⟩ := hrep.kind 6 rfl (kind_funcQ x 6 rfl); obtain ⟨i3_7, rfl⟩ := hrep.kind 7 rfl (kind_funcQ x 7 rfl); obtain ⟨p3_8, n3_8, c3_8, rfl⟩ := hrep.kind 8 rfl (kind_funcQ x 8 rfl); obtain ⟨i3_9, rfl⟩ := hrep.kind 9 rfl (kind_funcQ x 9 rfl);  have hk3 : w3.cell? ⟨b, 5, none⟩ = some (.slice pf M.funcs.length cf) := (hf3.cell HD1.out.lt (by simpa using hb0) 5).trans d5; have h9 : w1.heap.size ≤ w3.heap.size := hf3.size; have hz3 : b < w3.heap.size := (by omega); obtain ⟨g1, g2, g3, g4⟩ := append_ready (news := [.string s3_0, .slice p3_1 n3_1 c3_1, .slice p3_2 n3_2 c3_2, .slice p3_3 n3_3 c3_3, .slice p3_4 n3_4 c3_4, .string s3_5, .slice p3_6 n3_6 c3_6, .int .i64 i3_7, .slice p3_8 n3_8 c3_8, .int .i64 i3_9]) HM1.out.f (Nat.le_refl _) ((Fr.refl [c.R] w1).drew.trans hf3) HRw (by omega) hrep 68; have G1 := Lib.hid g1; have G2 := Lib.hid g2; have G3 := Lib.hid g3; have HQ3 := Lib.hid hq3.out; clear g1 g2 g3 hrep hq3))
      all_goals
        have hz4 : w0.heap.size ≤ w4.heap.size := by have h1 := HG4.out.size; simp at h1; omega
        have hI4 := (hi3.alloc (.cells #[.string s3_0, .slice p3_1 n3_1 c3_1, .slice p3_2 n3_2 c3_2, .slice p3_3 n3_3 c3_3, .slice p3_4 n3_4 c3_4, .string s3_5, .slice p3_6 n3_6 c3_6, .int .i64 i3_7, .slice p3_8 n3_8 c3_8, .int .i64 i3_9] 68)).grown H0.out HG4.out hown
        have hF4 := ((HF1.out.drew.trans hf3.wide).alloc (.cells #[.string s3_0, .slice p3_1 n3_1 c3_1, .slice p3_2 n3_2 c3_2, .slice p3_3 n3_3 c3_3, .slice p3_4 n3_4 c3_4, .string s3_5, .slice p3_6 n3_6 c3_6, .int .i64 i3_7, .slice p3_8 n3_8 c3_8, .int .i64 i3_9] 68)).grown HG4.out hown
        have hM4 := ((HM1.out.keep ((Fr.refl [c.R] w1).drew.trans hf3) (by simpa using HRw)).keep (X := []) ((Fr.refl _ _).alloc (.cells #[.string s3_0, .slice p3_1 n3_1 c3_1, .slice p3_2 n3_2 c3_2, .slice p3_3 n3_3 c3_3, .slice p3_4 n3_4 c3_4, .string s3_5, .slice p3_6 n3_6 c3_6, .int .i64 i3_7, .slice p3_8 n3_8 c3_8, .int .i64 i3_9] 68)) (by simp)).moreF HG4.out HL4.out
        have hfs : Fr [b] w4 (w4.setCell ⟨b, 5, none⟩ (.slice p' (M.funcs.length + 1) c')) := (Fr.refl _ _).setCell (.inl (by simp)) _
        have HF7 := Lib.hid (hF4.trans (hfs.mono (Y := [c.R, b]) (fun k _ hk => by simp at hk; simp [hk])))
        have HI7 := Lib.hid (hI4.frp hap hfs)
        have HD7 := Lib.hid (Blk.set hD4.out 5 (.slice p' (M.funcs.length + 1) c'))
        have HM7 := Lib.hid (hM4.keep hfs (by simpa using hb))
        clear hfs hI4 hF4 hM4 hf3 hi3 hk3 hk4 hf4 hown
        try go_wp2_with fail
        first | go_end0 | refine bodyPost_ret (results_none rfl _ _ _) rfl ?_
        exact RPM.ok (HSP.out x _ HQ3.out) HF7.out HI7.out HD7.out HM7.out
  · go_wp2_with fail
    exact ⟨rfl, RPM.bad (by simp only [Px.item, bind, Px.Rd.bind, offset_res, hq1.out]) (HF0.out.trans (((Fr.refl _ _).alloc _).trans hf).wide) hi⟩
end Go.Proofs.YtefihbhcdocgfaaGreatDoor
