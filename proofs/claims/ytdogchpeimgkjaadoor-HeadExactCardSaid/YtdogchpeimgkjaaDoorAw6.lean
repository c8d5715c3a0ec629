/- awake of the statements of layer 6: it returns true and leaves all that was there. -/
import Derived.Test.YtdogchpeimgkjaaDoorHn
import Derived.Test.YtdogchpeimgkjaaDoorHb
import Derived.Test.YtdogchpeimgkjaaDoorHe
set_option linter.unusedVariables false
namespace Go.Proofs.YtdogchpeimgkjaaDoor
open Go.RowKit

theorem Tab.old {w w' : World} (h : Tab w) (hk : KeptIn (· < w.heap.size) w w') : Tab w' := h.kept hk h.lt
theorem KeptIn.step {w V W : World} (h : KeptIn (· < w.heap.size) w V) (k : KeptIn (· < V.heap.size) V W) : KeptIn (· < w.heap.size) w W := h.trans (k.mono fun _ hk => Nat.lt_of_lt_of_le hk h.size)

attribute [local go_sem] eqTwo

theorem made_zero (n : Nat) : (madeCells #[.int .u8 0] n).toList = List.replicate n (.int .u8 0) := by
  rw [List.eq_replicate_iff]
  refine ⟨by simp [madeCells], fun b hb => ?_⟩
  unfold madeCells at hb
  rw [Array.toList_map, List.mem_map] at hb
  obtain ⟨i, _, rfl⟩ := hb
  rw [show i % (#[Value.int .u8 0] : Array Value).size = 0 from Nat.mod_one i]
  rfl
theorem made_zero16 : (madeCells #[.int .u8 0] 16).toList = Lib.byteCells (List.replicate 16 0) := by
  rw [made_zero]
  simp [Lib.byteCells]

set_option maxHeartbeats 1000000 in
set_option maxRecDepth 100000 in
theorem awake6 (w : World) (hT : Tab w) : Calls Tryd.prog 6 #[] w fun e w' => e = .returned (.bool true) ∧ KeptIn (· < w.heap.size) w w' := by
  obtain ⟨s, hs⟩ : ∃ s, bytesH ⟨7, 3, 20, 4, 2⟩ = s := ⟨_, rfl⟩
  have hg : goodH ⟨7, 3, 20, 4, 2⟩ = true := by decide
  have h1 := isH_bytes _ hg
  have h2 := headR_bytes _ hg
  have h3 := bytesH_length ⟨7, 3, 20, 4, 2⟩
  have h4 : (bytesH ⟨7, 3, 20, 4, 2⟩).take 6 = [84, 2, 20, 0, 4, 0] := rfl
  rw [hs] at h1 h2 h3 h4
  have hz : isH (List.replicate 16 0) = false := by
    rw [isH, show goodH (headIn (List.replicate 16 0)) = false from by decide]
    simp
  have hnw : newH (List.replicate 16 0) s = (⟨7, 3, 20, 4, 2⟩, 1, true) := by
    rw [newH, hz, h1.1, h1.2]; rfl
  obtain ⟨W0, hW0⟩ : ∃ W0, w.alloc (.cells #[.int .u64 7, .int .i64 3, .int .i64 20, .int .i64 4, .int .i64 2] 25) = W0 := ⟨_, rfl⟩
  obtain ⟨x, hx⟩ : ∃ x, w.heap.size = x := ⟨_, rfl⟩
  have hk0 : KeptIn (· < w.heap.size) w W0 := by rw [← hW0]; exact (KeptIn.refl _ w).alloc (fun _ h => h) _
  have hb : BoxH x ⟨7, 3, 20, 4, 2⟩ W0 := by rw [← hW0, ← hx]; exact BoxH.new w ⟨7, 3, 20, 4, 2⟩
  have hT0 := hT.old hk0
  have CB := hdBytesOk ⟨7, 3, 20, 4, 2⟩ hg W0 hT0
  rw [hs] at CB
  have CR := Lib.hid fun V (hk : KeptIn (· < W0.heap.size) W0 V) => hdRead s V (hT0.old hk) (by omega)
  rw [h1.1, h2] at CR
  have CN := Lib.hid fun V (hk : KeptIn (· < W0.heap.size) W0 V) => hdNewest (List.replicate 16 0) s V (hT0.old hk) (by simp) (by omega)
  rw [hnw] at CN
  have HX : Hid (∀ V, KeptIn (· < W0.heap.size) W0 V → V.cell? ⟨x, 0, none⟩ = some (.int .u64 7) ∧ V.cell? ⟨x, 1, none⟩ = some (.int .i64 3) ∧ V.cell? ⟨x, 2, none⟩ = some (.int .i64 20) ∧ V.cell? ⟨x, 3, none⟩ = some (.int .i64 4) ∧ V.cell? ⟨x, 4, none⟩ = some (.int .i64 2)) := Lib.hid fun V hk => by
    have h := hb.kept hk hb.lt
    exact ⟨h.c0, h.c1, h.c2, h.c3, h.c4⟩
  have HK0 := Lib.hid hk0
  have HW0 := Lib.hid (And.intro hW0 hx)
  have HCB := Lib.hid CB
  have hl : (s.length : Int) = 16 := by omega
  have hex : (⟨s.toArray⟩ : ByteArray).extract 0 6 = ⟨#[84, 2, 20, 0, 4, 0]⟩ := by rw [ext_take, h4]
  clear hs hg h1 h2 h3 h4 hz hnw hW0 hx hk0 hb hT0 CB hT
  unfold headV at HCB
  go_enter Tryd.func6, Tryd.ntmps6
  go_wp2_with (go_at_call 7; rw [HW0.out.1, HW0.out.2]; refine HCB.out.mono ?_; rintro e V1 ⟨rfl, k1⟩)
  refine (CR.out V1 k1).mono ?_
  rintro e V2 hR
  unfold ReadH headV at hR
  obtain ⟨rfl, k2⟩ := hR
  simp only [if_true]
  have k12 := k1.step k2
  clear CR k1 k2 HCB
  obtain ⟨i0, hi, hz0, hz1, hz2⟩ := info_parts Tryd.Builder_Extra_105.infoByte
  obtain ⟨y, hy⟩ : ∃ y, V2.heap.size = y := ⟨_, rfl⟩
  have hby := BoxH.new V2 ⟨7, 3, 20, 4, 2⟩
  have hk3 : KeptIn (· < W0.heap.size) W0 (V2.alloc (.cells #[.int .u64 7, .int .i64 3, .int .i64 20, .int .i64 4, .int .i64 2] 25)) := k12.trans (((KeptIn.refl (· < V2.heap.size) V2).alloc (fun _ h => h) _).mono fun k h => Nat.lt_of_lt_of_le h k12.size)
  obtain ⟨V3, hV3⟩ : ∃ V, V2.alloc (.cells #[.int .u64 7, .int .i64 3, .int .i64 20, .int .i64 4, .int .i64 2] 25) = V := ⟨_, rfl⟩
  have hby' : BoxH y ⟨7, 3, 20, 4, 2⟩ V3 := by rw [← hV3, ← hy]; exact hby
  rw [hV3] at hk3
  have HV3 := Lib.hid (And.intro hV3 hy)
  have HY := Lib.hid (And.intro hby' hk3)
  clear hby hby' hk3 hV3 hy k12
  go_wp2_with (at_make; rw [HV3.out.1, HV3.out.2]; refine wpList_make_full _ rfl _ _ 42 rfl V3.heap.size 5 i0 _ 1 Tryd.underlying42 hi hz0 hz1 .i64 .i64 16 16 16 rfl rfl rfl rfl (by rw [hz2]; decide) (by decide) (Nat.le_refl _) ?_)
  intro V4 hown hgrow
  have hcv := conv_own V3.heap.size _ (List.replicate 16 0) V4 (by rw [← made_zero16]; exact hown) (by simp)
  have k4 : KeptIn (· < W0.heap.size) W0 V4 := HY.out.2.trans ((KeptIn.refl (· < V3.heap.size) V3).grown (fun _ h => h) hgrow (by simp) |>.mono fun k h => Nat.lt_of_lt_of_le h HY.out.2.size)
  have b4 : BoxH y ⟨7, 3, 20, 4, 2⟩ V4 := HY.out.1.kept ((KeptIn.refl (· < V3.heap.size) V3).grown (fun _ h => h) hgrow (by simp)) HY.out.1.lt
  have CN4 := CN.out V4 k4
  have H4 := Lib.hid (And.intro b4 k4)
  clear hown hgrow b4 k4 HY HV3 hi hz0 hz1 hz2 CN
  unfold NewH headV at CN4
  simp only [if_true] at CN4
  have HC4 := Lib.hid CN4
  clear CN4
  go_wp2_with (go_at_call 13; refine HC4.out.mono ?_)
  rintro e V5 ⟨rfl, k5⟩
  have k6 : KeptIn (· < V4.heap.size) V4 (V5.alloc (.cells #[.int .u64 7, .int .i64 3, .int .i64 20, .int .i64 4, .int .i64 2] 25)) := k5.alloc (fun _ h => h) _
  obtain ⟨x0, x1, x2, x3, x4⟩ := HX.out _ (H4.out.2.trans (k6.mono fun k h => Nat.lt_of_lt_of_le h H4.out.2.size))
  have hy := H4.out.1.kept k6 H4.out.1.lt
  obtain ⟨V6, hV6⟩ : ∃ V, V5.alloc (.cells #[.int .u64 7, .int .i64 3, .int .i64 20, .int .i64 4, .int .i64 2] 25) = V := ⟨_, rfl⟩
  have y0 : V6.cell? ⟨y, 0, none⟩ = some (.int .u64 7) := by rw [← hV6]; exact hy.c0
  have y1 : V6.cell? ⟨y, 1, none⟩ = some (.int .i64 3) := by rw [← hV6]; exact hy.c1
  have y2 : V6.cell? ⟨y, 2, none⟩ = some (.int .i64 20) := by rw [← hV6]; exact hy.c2
  have y3 : V6.cell? ⟨y, 3, none⟩ = some (.int .i64 4) := by rw [← hV6]; exact hy.c3
  have y4 : V6.cell? ⟨y, 4, none⟩ = some (.int .i64 2) := by rw [← hV6]; exact hy.c4
  rw [← hV6] at y0 y1 y2 y3 y4
  have HK := Lib.hid (HK0.out.step (H4.out.2.trans (k6.mono fun k h => Nat.lt_of_lt_of_le h H4.out.2.size)))
  clear k5 k6 hy hcv HC4 hV6
  go_wp2_with fail
  go_ret
  exact ⟨rfl, HK.out⟩

end Go.Proofs.YtdogchpeimgkjaaDoor
