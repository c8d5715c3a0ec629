/- OctetReads of layer 1: the walk: it returns true for every input and writes nothing that was there. -/
import Derived.Test.YtifealfkcfcbeaaDoorWritesW
set_option linter.unusedVariables false
namespace Go.Proofs.YtifealfkcfcbeaaDoor
open Go.RowKit

theorem IsU.c0 {r : Nat} {l : List UInt8} {sh : Bool} {w : World} (h : IsU r l sh w) : w.cell? ⟨r, 0, none⟩ = some (.string ⟨l.toArray⟩) := by simp [World.cell?, show w.heap[r]? = _ from h]
theorem IsU.c1 {r : Nat} {l : List UInt8} {sh : Bool} {w : World} (h : IsU r l sh w) : w.cell? ⟨r, 1, none⟩ = some (.bool sh) := by simp [World.cell?, show w.heap[r]? = _ from h]
theorem IsU.f0 {r : Nat} {l : List UInt8} {sh : Bool} {w : World} (h : IsU r l sh w) : w.frozen? ⟨r, 0, none⟩ = false := by simp [World.frozen?, show w.heap[r]? = _ from h]

theorem takeR_short (n : Int) (l : List UInt8) (sh : Bool) : (takeR n l sh).2.1.length ≤ l.length := by
  unfold takeR
  split
  · exact Nat.le_refl _
  · split
    · simp
    · simp

/-- What both readers hold, and the frame. -/
def Both (w : World) (r u : Nat) (l : List UInt8) (sh : Bool) (W : World) : Prop :=
  l.length ≤ 1024 ∧ IsR r l sh W ∧ IsU u l sh W ∧ KeptIn (· < w.heap.size) w W

set_option maxHeartbeats 2000000 in
set_option maxRecDepth 100000 in
theorem readsW (s : ByteArray) (a1 : Option Addr) (len1 cap1 : Nat) (w : World) (w0 : s.size ≤ maxLen) (w1 : IsActs w a1 len1) :
    Calls Tryd.prog 4 #[.string s, .slice a1 len1 cap1] w fun e w' => e = .returned (.bool true) ∧ KeptIn (· < w.heap.size) w w' := by
  have l0 := w1.len_le
  unfold maxLen at l0 w0
  have b0 : (len1 : Int) ≤ 9223372036854775807 := by omega
  have b2 : (s.size : Int) ≤ 9223372036854775807 := by omega
  have W0 := Lib.hid w1
  clear w1 l0 w0
  by_cases hs : (1024 : Int) < (s.size : Int)
  · go_enter Tryd.func4, Tryd.ntmps4
    go_wp2_with fail
    refine (awake1 w).mono ?_
    rintro e w3 ⟨rfl, k3⟩
    go_wp2
    go_ret
    exact ⟨rfl, k3⟩
  · go_enter Tryd.func4, Tryd.ntmps4
    go_wp2_with fail
    refine (awake1 w).mono ?_
    rintro e w3 ⟨rfl, k3⟩
    go_wp2_with fail
    refine (ofW s w3).mono ?_
    rintro e w4 ⟨rfl, r4, k4⟩
    have HR4 := Lib.hid r4; have HK4 := Lib.hid k4; have HK3 := Lib.hid k3
    clear r4 k4 k3
    go_wp2_with fail
    have hru : w3.heap.size ≠ w4.heap.size := Nat.ne_of_lt HR4.out.lt
    have hrX : ¬ w3.heap.size < w.heap.size := Nat.not_lt.2 HK3.out.size
    have huX : ¬ w4.heap.size < w.heap.size := Nat.not_lt.2 (Nat.le_trans HK3.out.size HK4.out.size)
    have hk5 := (KeptIn.refl (· < w4.heap.size) w4).alloc (fun _ h => h) (.cells #[.string s, .bool false] 42)
    have H0 : Hid (Both w w3.heap.size w4.heap.size s.data.toList false (w4.alloc (.cells #[.string s, .bool false] 42))) := by
      refine Lib.hid ⟨by rw [← Lib.size_eq]; omega, HR4.out.kept hk5 HR4.out.lt, ?_, HK3.out.trans ((HK4.out.mono fun k h => Nat.lt_of_lt_of_le h HK3.out.size).trans (hk5.mono fun k h => Nat.lt_of_lt_of_le h (Nat.le_trans HK3.out.size HK4.out.size)))⟩
      unfold IsU
      rw [heap_alloc_new, Lib.mk_data]
    clear hk5 HR4 HK4 HK3
    generalize w4.alloc (.cells #[.string s, .bool false] 42) = w5 at *
    generalize w4.heap.size = u at *
    generalize w3.heap.size = r at *
    go_loopw [7] (fun c W => ∃ (j : Nat) (W' : World) (l : List UInt8) (sh : Bool), W' = W ∧ j ≤ len1 ∧ j ≤ 60 ∧ c = .int .i64 j ∧ Hid (Both w r u l sh W)) (fun c _ => 60 - (intOf c).toNat)
    case atStart => exact ⟨0, _, _, _, rfl, Nat.zero_le _, Nat.zero_le _, rfl, H0⟩
    case round =>
      obtain ⟨j, W, l, sh, rfl, hj, hj6, rfl, HJ⟩ := hrel
      clear H0
      by_cases hlt : j < len1
      · have d1 : (j : Int) < (len1 : Int) := by omega
        by_cases hlt6 : j < 60
        · have d2 : (j : Int) < 60 := by omega
          obtain ⟨b, off, rfl, hb, _, hel⟩ : ∃ b off, a1 = some ⟨b, off, none⟩ ∧ b < w.heap.size ∧ len1 ≤ maxLen ∧ _ := W0.out.resolve_left (by omega)
          obtain ⟨kd, n, sz, s2, wk, hn, wsz, hs2, e0, e1, e2, e3⟩ := hel j hlt
          have g0 := (World.cell?_of_block (HJ.out.2.2.2.block b hb)).trans e0
          have g1 := (World.cell?_of_block (HJ.out.2.2.2.block b hb)).trans e1
          have g2 := (World.cell?_of_block (HJ.out.2.2.2.block b hb)).trans e2
          have g3 := (World.cell?_of_block (HJ.out.2.2.2.block b hb)).trans e3
          have d0 : (0 : Int) ≤ (j : Int) := by omega
          have bk := bounds_i64 wk
          have bsz := bounds_i64 wsz
          clear e0 e1 e2 e3 hel wk wsz hs2 hn
          obtain ⟨hlen, hR, hU, hK⟩ := HJ.out
          have hA5 : (W.alloc (.cells #[.int .i64 kd, .int .u64 n, .int .i64 sz, .string s2] 30)).heap[W.heap.size]? = some (.cells #[.int .i64 kd, .int .u64 n, .int .i64 sz, .string s2] 30 (0, 0)) := heap_alloc_new W _
          have hk5 := (KeptIn.refl (· < W.heap.size) W).alloc (fun _ h => h) (.cells #[.int .i64 kd, .int .u64 n, .int .i64 sz, .string s2] 30)
          have H5 : Hid (Both w r u l sh (W.alloc (.cells #[.int .i64 kd, .int .u64 n, .int .i64 sz, .string s2] 30))) :=
            Lib.hid ⟨hlen, hR.kept hk5 hR.lt, hU.kept hk5 hU.lt, hK.trans (hk5.mono (hK.lt (fun _ h => h)))⟩
          have q2 : (W.alloc (.cells #[.int .i64 kd, .int .u64 n, .int .i64 sz, .string s2] 30)).cell? ⟨W.heap.size, 2, none⟩ = some (.int .i64 sz) := by rw [Lib.cell_of_heap hA5]; rfl
          have hxr : W.heap.size ≠ r := Nat.ne_of_gt hR.lt
          have hxu : W.heap.size ≠ u := Nat.ne_of_gt hU.lt
          have hxw : ¬ W.heap.size < w.heap.size := Nat.not_lt.2 hK.size
          have hsz5 : W.heap.size < (W.alloc (.cells #[.int .i64 kd, .int .u64 n, .int .i64 sz, .string s2] 30)).heap.size := (Array.getElem?_eq_some_iff.1 hA5).1
          have HL := Lib.hid hlen
          clear hlen hR hU hK hA5 hk5 HJ
          by_cases k4 : kd = 4
          · subst k4
            go_wp2_with fail
            clear g0 g1 g2 g3
            generalize W.alloc (.cells #[.int .i64 4, .int .u64 n, .int .i64 sz, .string s2] 30) = w5 at *
            generalize W.heap.size = x at *
            have hne := takeR_short (min (max sz 1) 8) l sh
            have h8 := takeR_le (min (max sz 1) 8) l sh 8 (by omega)
            obtain ⟨t, l', sh', hT⟩ : ∃ t l' sh', takeR (min (max sz 1) 8) l sh = (t, l', sh') := ⟨_, _, _, rfl⟩
            rw [hT] at hne h8
            have hn' : l'.length ≤ l.length := hne
            have h8' : t.length ≤ 8 := h8
            have getC : ∀ V, IsR r l sh V → Calls Tryd.prog 15 #[.pointer (some ⟨r, 0, none⟩), .int .i64 sz] V fun e w' => e = .returned (.int .u64 (numLE t)) ∧ IsR r l' sh' w' ∧ KeptIn (fun k => k ≠ r ∧ k < V.heap.size) V w' := fun V hV => by
              have := getW (fun k => k ≠ r ∧ k < V.heap.size) r l sh sz V hV (fun h => h.1 rfl) (fun _ h => h.2) (by have := HL.out; omega)
              rw [hT] at this
              exact this
            have utakeC : ∀ V, IsU u l sh V → Calls Tryd.prog 17 #[.pointer (some ⟨u, 0, none⟩), .int .i64 (min (max sz 1) 8)] V fun e w' => e = .returned (.string ⟨t.toArray⟩) ∧ IsU u l' sh' w' ∧ KeptIn (· ≠ u) V w' := fun V hV => by
              have := utakeW u l sh (min (max sz 1) 8) V hV (by have := HL.out; omega)
              rw [hT] at this
              exact this
            have GC := Lib.hid getC; have UC := Lib.hid utakeC; have HN' := Lib.hid (Nat.le_trans hn' HL.out); have H8 := Lib.hid h8'
            have HU5 : Hid (IsU u l sh w5.drew) := Lib.hid (show IsU u l sh w5.drew from H5.out.2.2.1)
            clear getC utakeC hT hne h8 hn' h8'
            go_region_held3 (fun w' => w'.cell? ⟨x, 2, none⟩ = some (.int .i64 sz))
              (first | exact (World.cell?_of_block (h6.block x hxu)).trans (by assumption) | exact (World.cell?_of_block (h2.block x ⟨hxr, hsz5⟩)).trans (by first | exact q2 | assumption) | exact q2 | assumption | go_keep)
              (first | (go_at_call 15; refine (GC.out _ ?_).mono ?_; (exact H5.out.2.1); rintro e w' ⟨rfl, h1, h2⟩) | (go_at_call 18; refine (rsize sz _).mono ?_; rintro e w' ⟨rfl, rfl⟩) | (go_at_call 17; refine (UC.out _ ?_).mono ?_; (exact HU5.out.kept h2 ⟨Ne.symm hru, HU5.out.lt⟩); rintro e w' ⟨rfl, h5, h6⟩) | (go_at_call 16; refine (rnumber t H8.out _).mono ?_; rintro e w' ⟨rfl, rfl⟩))
            have HB : Hid (Both w r u l' sh' _) := Lib.hid ⟨HN'.out, h1.kept h6 hru, h5, ((H5.out.2.2.2.drew).trans (h2.mono fun k h => ⟨fun e => hrX (e ▸ h), H5.out.2.2.2.lt (fun _ h => h) k h⟩)).trans (h6.mono fun k h e => huX (e ▸ h))⟩
            clear h1 h2 h5 h6 GC UC HU5 H5 q2
            go_wp2_with fail
            refine (endW r l' sh' _ HB.out.2.1).mono ?_
            rintro e _ ⟨he, rfl⟩
            have c0 := HB.out.2.2.1.c0
            have c1 := HB.out.2.2.1.c1
            cases sh'
            · cases l' with
              | nil =>
                rw [show endOf [] false = 0 from rfl] at he
                subst he
                go_wp2_with fail
                go_roundw
                case rel => exact ⟨j + 1, _, _, _, rfl, by omega, by omega, by go_num, HB⟩
                case measure => simp [intOf]; omega
              | cons y tl =>
                rw [show endOf (y :: tl) false = 3 from rfl] at he
                subst he
                go_wp2_with fail
                go_roundw
                case rel => exact ⟨j + 1, _, _, _, rfl, by omega, by omega, by go_num, HB⟩
                case measure => simp [intOf]; omega
            · rw [show endOf l' true = 3 from rfl] at he
              subst he
              go_wp2_with fail
              go_roundw
              case rel => exact ⟨j + 1, _, _, _, rfl, by omega, by omega, by go_num, HB⟩
              case measure => simp [intOf]; omega
          · by_cases k5 : kd = 5
            · subst k5
              go_wp2_with fail
              clear g0 g1 g2 g3
              generalize W.alloc (.cells #[.int .i64 5, .int .u64 n, .int .i64 sz, .string s2] 30) = w5 at *
              generalize W.heap.size = x at *
              have hne := takeR_short sz l sh
              obtain ⟨t, l', sh', hT⟩ : ∃ t l' sh', takeR sz l sh = (t, l', sh') := ⟨_, _, _, rfl⟩
              rw [hT] at hne
              have hn' : l'.length ≤ l.length := hne
              have takeC : ∀ V, IsR r l sh V → Calls Tryd.prog 19 #[.pointer (some ⟨r, 0, none⟩), .int .i64 sz] V fun e w' => e = .returned (.string ⟨t.toArray⟩) ∧ IsR r l' sh' w' ∧ KeptIn (· ≠ r) V w' := fun V hV => by
                have := takeW r l sh sz V hV (by have := HL.out; omega)
                rw [hT] at this
                exact this
              have utakeC : ∀ V, IsU u l sh V → Calls Tryd.prog 17 #[.pointer (some ⟨u, 0, none⟩), .int .i64 sz] V fun e w' => e = .returned (.string ⟨t.toArray⟩) ∧ IsU u l' sh' w' ∧ KeptIn (· ≠ u) V w' := fun V hV => by
                have := utakeW u l sh sz V hV (by have := HL.out; omega)
                rw [hT] at this
                exact this
              have GC := Lib.hid takeC; have UC := Lib.hid utakeC; have HN' := Lib.hid (Nat.le_trans hn' HL.out)
              have HU5 : Hid (IsU u l sh w5.drew) := Lib.hid (show IsU u l sh w5.drew from H5.out.2.2.1)
              clear takeC utakeC hT hne hn'
              go_region_held3 (fun w' => w'.cell? ⟨x, 2, none⟩ = some (.int .i64 sz))
                (first | exact (World.cell?_of_block (h6.block x hxu)).trans (by assumption) | exact (World.cell?_of_block (h2.block x hxr)).trans (by first | exact q2 | assumption) | exact q2 | assumption | go_keep)
                (first | (go_at_call 19; refine (GC.out _ ?_).mono ?_; (exact H5.out.2.1); rintro e w' ⟨rfl, h1, h2⟩) | (go_at_call 17; refine (UC.out _ ?_).mono ?_; (exact HU5.out.kept h2 (Ne.symm hru)); rintro e w' ⟨rfl, h5, h6⟩))
              have HB : Hid (Both w r u l' sh' _) := Lib.hid ⟨HN'.out, h1.kept h6 hru, h5, ((H5.out.2.2.2.drew).trans (h2.mono fun k h e => hrX (e ▸ h))).trans (h6.mono fun k h e => huX (e ▸ h))⟩
              clear h1 h2 h5 h6 GC UC HU5 H5 q2
              go_wp2_with fail
              refine (endW r l' sh' _ HB.out.2.1).mono ?_
              rintro e _ ⟨he, rfl⟩
              have c0 := HB.out.2.2.1.c0
              have c1 := HB.out.2.2.1.c1
              cases sh'
              · cases l' with
                | nil =>
                  rw [show endOf [] false = 0 from rfl] at he
                  subst he
                  go_wp2_with fail
                  go_roundw
                  case rel => exact ⟨j + 1, _, _, _, rfl, by omega, by omega, by go_num, HB⟩
                  case measure => simp [intOf]; omega
                | cons y tl =>
                  rw [show endOf (y :: tl) false = 3 from rfl] at he
                  subst he
                  go_wp2_with fail
                  go_roundw
                  case rel => exact ⟨j + 1, _, _, _, rfl, by omega, by omega, by go_num, HB⟩
                  case measure => simp [intOf]; omega
              · rw [show endOf l' true = 3 from rfl] at he
                subst he
                go_wp2_with fail
                go_roundw
                case rel => exact ⟨j + 1, _, _, _, rfl, by omega, by omega, by go_num, HB⟩
                case measure => simp [intOf]; omega
            · by_cases k6 : kd = 6
              · subst k6
                have cu := H5.out.2.2.1.c0
                have hl0 : (l.length : Int) ≤ 1024 := by have := HL.out; omega
                go_wp2_with fail
                clear g0 g1 g2 g3
                generalize W.alloc (.cells #[.int .i64 6, .int .u64 n, .int .i64 sz, .string s2] 30) = w5 at *
                generalize W.heap.size = x at *
                go_loop [9, 10] (fun z c => ∃ i : Nat, i ≤ l.length ∧ c = .int .i64 i ∧ z = .bool ((l.take i).all (· == 0))) (fun _ c => l.length - (intOf c).toNat)
                case atStart => exact ⟨0, Nat.zero_le _, rfl, rfl⟩
                case round =>
                  obtain ⟨i, hi, rfl, rfl⟩ := hrel
                  by_cases hli : i < l.length
                  · have i0 : (0 : Int) ≤ (i : Int) := by omega
                    have i1 : (i : Int) < (l.length : Int) := by omega
                    have hstep : (l.take (i + 1)).all (· == 0) = ((l.take i).all (· == 0) && (l[i] == 0)) := by
                      rw [List.take_succ_eq_append_getElem hli, List.all_append]
                      simp
                    have hbyte : (l[i] == 0) = (((l[i].toNat : Nat) : Int) == 0) := by
                      rw [Bool.eq_iff_iff, beq_iff_eq, beq_iff_eq]
                      constructor
                      · intro h; rw [h]; rfl
                      · intro h; exact UInt8.toNat_inj.1 (by have : l[i].toNat = 0 := by omega
                                                             exact this)
                    rw [hbyte] at hstep
                    have HS := Lib.hid hstep
                    clear hstep hbyte
                    cases hz : (l.take i).all (· == 0)
                    · have hnew : (l.take (i + 1)).all (· == 0) = false := by rw [HS.out, hz]; rfl
                      have HN := Lib.hid hnew; clear hnew
                      go_wp2_with fail
                      go_round
                      case rel => exact ⟨i + 1, by omega, by go_num, by rw [HN.out]⟩
                      case measure => simp [intOf]; omega
                    · have hnew : (l.take (i + 1)).all (· == 0) = (((l[i].toNat : Nat) : Int) == 0) := by rw [HS.out, hz]; rfl
                      have HN := Lib.hid hnew; clear hnew
                      go_wp2_with fail
                      go_round
                      case rel => exact ⟨i + 1, by omega, by go_num, by rw [HN.out]; rfl⟩
                      case measure => simp [intOf]; omega
                  · obtain rfl : i = l.length := by omega
                    have fu := H5.out.2.2.1.f0
                    go_wp2_with fail
                    have hR6 : IsR r l sh (w5.setCell ⟨u, 0, none⟩ (.string ⟨#[]⟩)) := H5.out.2.1.kept ((KeptIn.refl (· ≠ u) w5).setCell (by simp) _) hru
                    have hU6 : IsU u [] sh (w5.setCell ⟨u, 0, none⟩ (.string ⟨#[]⟩)) := by
                      have := H5.out.2.2.1
                      unfold IsU at this
                      simp [IsU, World.setCell, Array.getElem?_modify, this]
                    have hK6 := H5.out.2.2.2.setCell (p := ⟨u, 0, none⟩) huX (.string ⟨#[]⟩)
                    refine (zerosW r l sh _ hR6).mono ?_
                    rintro e w7 ⟨rfl, r7, k7⟩
                    have HB : Hid (Both w r u [] sh w7) := Lib.hid ⟨Nat.zero_le _, r7, hU6.kept k7 (Ne.symm hru), hK6.trans (k7.mono fun k h e => hrX (e ▸ h))⟩
                    clear hR6 hU6 hK6 r7 k7 H5 q2 cu fu
                    go_wp2_with fail
                    refine (endW r [] sh _ HB.out.2.1).mono ?_
                    rintro e _ ⟨he, rfl⟩
                    have c0 := HB.out.2.2.1.c0
                    have c1 := HB.out.2.2.1.c1
                    cases sh
                    · rw [show endOf [] false = 0 from rfl] at he
                      subst he
                      go_wp2_with fail
                      go_roundw
                      case rel => exact ⟨j + 1, _, _, _, rfl, by omega, by omega, by go_num, HB⟩
                      case measure => simp [intOf]; omega
                    · rw [show endOf [] true = 3 from rfl] at he
                      subst he
                      go_wp2_with fail
                      go_roundw
                      case rel => exact ⟨j + 1, _, _, _, rfl, by omega, by omega, by go_num, HB⟩
                      case measure => simp [intOf]; omega
              · have k4b : (kd == 4) = false := by rw [beq_eq_false_iff_ne]; exact k4
                have k5b : (kd == 5) = false := by rw [beq_eq_false_iff_ne]; exact k5
                have k6b : (kd == 6) = false := by rw [beq_eq_false_iff_ne]; exact k6
                clear k4 k5 k6
                have HB := H5
                go_wp2_with fail
                refine (endW r l sh _ HB.out.2.1).mono ?_
                rintro e _ ⟨he, rfl⟩
                have c0 := HB.out.2.2.1.c0
                have c1 := HB.out.2.2.1.c1
                cases sh
                · cases l with
                  | nil =>
                    rw [show endOf [] false = 0 from rfl] at he
                    subst he
                    go_wp2_with fail
                    go_roundw
                    case rel => exact ⟨j + 1, _, _, _, rfl, by omega, by omega, by go_num, HB⟩
                    case measure => simp [intOf]; omega
                  | cons y tl =>
                    rw [show endOf (y :: tl) false = 3 from rfl] at he
                    subst he
                    go_wp2_with fail
                    go_roundw
                    case rel => exact ⟨j + 1, _, _, _, rfl, by omega, by omega, by go_num, HB⟩
                    case measure => simp [intOf]; omega
                · rw [show endOf l true = 3 from rfl] at he
                  subst he
                  go_wp2_with fail
                  go_roundw
                  case rel => exact ⟨j + 1, _, _, _, rfl, by omega, by omega, by go_num, HB⟩
                  case measure => simp [intOf]; omega
        · have hkw := HJ.out.2.2.2
          have HKW := Lib.hid hkw
          clear hkw HJ
          go_wp2_with fail
          refine (putNil 1 1 _ (by decide)).mono ?_
          rintro e w6 ⟨rfl, k6⟩
          have HK6 := Lib.hid (HKW.out.trans (k6.mono (HKW.out.lt (fun _ h => h))))
          clear k6 HKW
          go_wp2_with fail
          refine (textNil _ _).mono ?_
          rintro e _ ⟨rfl, rfl⟩
          go_wp2_with fail
          refine (fillNil 3 _).mono ?_
          rintro e _ ⟨rfl, rfl⟩
          go_wp2_with fail
          refine (getNil 1 _).mono ?_
          rintro e w7 ⟨rfl, k7⟩
          have HK7 := Lib.hid (HK6.out.trans (k7.mono (HK6.out.lt (fun _ h => h))))
          clear k7 HK6
          go_wp2_with fail
          refine (takeNil 1 _).mono ?_
          rintro e _ ⟨rfl, rfl⟩
          go_wp2_with fail
          refine (zerosNil _).mono ?_
          rintro e _ ⟨rfl, rfl⟩
          go_wp2_with fail
          refine (endNil _).mono ?_
          rintro e _ ⟨rfl, rfl⟩
          go_wp2_with fail
          refine (stringNil _).mono ?_
          rintro e _ ⟨rfl, rfl⟩
          go_wp2_with fail
          refine (lenNil _).mono ?_
          rintro e _ ⟨rfl, rfl⟩
          go_wp2_with fail
          go_ret
          exact ⟨rfl, HK7.out⟩
      · have hkw := HJ.out.2.2.2
        have HKW := Lib.hid hkw
        clear hkw HJ
        go_wp2_with fail
        refine (putNil 1 1 _ (by decide)).mono ?_
        rintro e w6 ⟨rfl, k6⟩
        have HK6 := Lib.hid (HKW.out.trans (k6.mono (HKW.out.lt (fun _ h => h))))
        clear k6 HKW
        go_wp2_with fail
        refine (textNil _ _).mono ?_
        rintro e _ ⟨rfl, rfl⟩
        go_wp2_with fail
        refine (fillNil 3 _).mono ?_
        rintro e _ ⟨rfl, rfl⟩
        go_wp2_with fail
        refine (getNil 1 _).mono ?_
        rintro e w7 ⟨rfl, k7⟩
        have HK7 := Lib.hid (HK6.out.trans (k7.mono (HK6.out.lt (fun _ h => h))))
        clear k7 HK6
        go_wp2_with fail
        refine (takeNil 1 _).mono ?_
        rintro e _ ⟨rfl, rfl⟩
        go_wp2_with fail
        refine (zerosNil _).mono ?_
        rintro e _ ⟨rfl, rfl⟩
        go_wp2_with fail
        refine (endNil _).mono ?_
        rintro e _ ⟨rfl, rfl⟩
        go_wp2_with fail
        refine (stringNil _).mono ?_
        rintro e _ ⟨rfl, rfl⟩
        go_wp2_with fail
        refine (lenNil _).mono ?_
        rintro e _ ⟨rfl, rfl⟩
        go_wp2_with fail
        go_ret
        exact ⟨rfl, HK7.out⟩

end Go.Proofs.YtifealfkcfcbeaaDoor
