import Derived.Test.YtjollbaohopmjaaUd9W
import Derived.Test.YtjollbaohopmjaaArgs
import Derived.Test.YtjollbaohopmjaaNums
import Derived.Deep.AppendLies
import Derived.Deep.CutBlock
/- ReachUnion of layer 9: the walk: it returns true for every input and writes nothing that was there. -/
set_option linter.unusedVariables false
namespace Go.Proofs.Ytjollbaohopmjaa
open Go.RowKit

theorem uni_num (j0 k : Nat) (hk : k = j0 + 1) (hj : j0 < 100) : wrap64 (1 + (j0 : Int)) = (k : Int) ∧ (1 : Int) + (j0 : Int) = (k : Int) := by
  unfold wrap64; omega
theorem uni_key (j : Nat) (hj : j < 100) : ∃ m q : Nat, wrap64 ((j : Int) * 7) = (m : Int) ∧ (j : Int) * 7 = (m : Int) ∧ wrap64 ((m : Int).tmod 101) = (q : Int) ∧ (m : Int).tmod 101 = (q : Int) ∧ (m : Int) % 101 = (q : Int) ∧ q < 101 ∧ m < 700 := by
  refine ⟨j * 7, (j * 7) % 101, ?_, by omega, ?_, ?_, by omega, by omega, by omega⟩
  · unfold wrap64; omega
  · rw [Int.tmod_eq_emod_of_nonneg (by omega)]; unfold wrap64; omega
  · rw [Int.tmod_eq_emod_of_nonneg (by omega)]; omega

theorem un_zero (w3 W1 W : World) (s : Nat) (hs : w3.heap.size = s) (h1 : w3.alloc (.cells #[.slice none 0 0, .int .i64 511] 30) = W1) (h2 : W1.alloc (.cells #[.int .i64 0] 3) = W) :
    Un w3 s 0 0 [] [] (fun k => k = s) [0] (.slice (some ⟨s + 1, 0, none⟩) 1 1) W := by
  have k1 : KeptIn (· < w3.heap.size) w3 W1 := by rw [← h1]; exact (KeptIn.refl _ w3).alloc (fun _ h => h) _
  have k2 : KeptIn (· < W1.heap.size) W1 W := by rw [← h2]; exact (KeptIn.refl _ W1).alloc (fun _ h => h) _
  have z1 : W1.heap.size = s + 1 := by rw [← h1, World.size_alloc, hs]
  have hsh := (tm_new w3 511 (by decide) W1 h1.symm).1
  rw [hs] at hsh
  refine ⟨hsh.old k2, fun k hk => by rw [hk, hs]; exact Nat.le_refl _, Nat.le_refl _, TrI.zero, ⟨rfl, .inr ⟨s + 1, 1, #[.int .i64 0], rfl, by omega, ?_, Nat.le_refl _, by decide, rfl, rfl⟩⟩, fun k hk e => ?_, fun x hx => ?_, k1.go k2⟩
  · rw [← h2, ← z1]; exact heap_alloc_new _ _
  · simp only [Value.ownBlock, Option.some.injEq] at e
    omega
  · rw [List.mem_singleton] at hx
    rw [hx]
    exact TrI.zero.un

theorem ud_zero (V X X2 X3 : World) (B gb : Nat) (hB : V.heap.size = B) (hX : (V.alloc (.cells #[] 3)).alloc (.cells #[] 3) = X) (hr : RowB X.heap.size falses X2) (hk : KeptIn (· < X.heap.size) X X2) (hgb : X.heap.size = gb) (hr3 : RowB gb falses X3) (hk3 : KeptIn (· ≠ gb) X2 X3) :
    Ud V B gb [] [] falses (.slice (some ⟨B, 0, none⟩) 0 0) (.slice (some ⟨B + 1, 0, none⟩) 0 0) X3 := by
  obtain ⟨V1, h1⟩ : ∃ V1, V.alloc (.cells #[] 3) = V1 := ⟨_, rfl⟩
  rw [h1] at hX
  have k1 : KeptIn (· < V.heap.size) V V1 := by rw [← h1]; exact (KeptIn.refl _ V).alloc (fun _ h => h) _
  have k2 : KeptIn (· < V1.heap.size) V1 X := by rw [← hX]; exact (KeptIn.refl _ V1).alloc (fun _ h => h) _
  have z1 : V1.heap.size = B + 1 := by rw [← h1, World.size_alloc, hB]
  have z2 : X.heap.size = B + 2 := by rw [← hX, World.size_alloc, z1]
  have b1 : V1.heap[B]? = some (.cells #[] 3 (0, 0)) := by rw [← h1, ← hB]; exact heap_alloc_new _ _
  have b2 : X.heap[B + 1]? = some (.cells #[] 3 (0, 0)) := by rw [← hX, ← z1]; exact heap_alloc_new _ _
  have c1 : X3.heap[B]? = some (.cells #[] 3 (0, 0)) := (hk3.block B (by omega)).trans ((hk.block B (by omega)).trans ((k2.block B (by omega)).trans b1))
  have c2 : X3.heap[B + 1]? = some (.cells #[] 3 (0, 0)) := (hk3.block (B + 1) (by omega)).trans ((hk.block (B + 1) (by omega)).trans b2)
  refine ⟨?_, ⟨rfl, .inr ⟨B, 0, #[], rfl, Nat.le_refl _, c1, Nat.le_refl _, Nat.zero_le _, rfl, rfl⟩⟩, ⟨rfl, .inr ⟨B + 1, 0, #[], rfl, by omega, c2, Nat.le_refl _, Nat.zero_le _, rfl, rfl⟩⟩, hr3, by omega, fun g e e2 => ?_⟩
  · have h2 := (k1.go k2).go hk
    rw [hB] at h2
    exact h2.trans (hk3.mono fun k hk' => by omega)
  · simp only [Value.ownBlock, Option.some.injEq] at e e2
    omega

/-- What stands in the loop over the trees that are asked for. -/
def Ul (V : World) (B gb t : Nat) (N : List Nd) (R S T : List Int) (nb : List Bool) (v1 v2 : Value) (W : World) : Prop :=
  Ud V B gb S T nb v1 v2 W ∧ S.length = t ∧ T.length = 2 * t ∧ (∀ x, x ∈ T ↔ x ∈ S) ∧ (∀ x ∈ S, x ∈ R) ∧ (∃ g c, v2 = .slice (some ⟨g, 0, none⟩) T.length c) ∧ MkI nb fun q => q ∈ unN N S

/-- So many are below q. -/
def cntB (L : List Int) (q : Int) : Nat := (L.filter fun z => decide (z < q)).length
theorem cntB_cons (a : Int) (L : List Int) (q : Int) : cntB (a :: L) q = (if a < q then 1 else 0) + cntB L q := by
  unfold cntB
  rw [List.filter_cons]
  by_cases h : a < q
  · rw [if_pos (by simpa using h), if_pos h, List.length_cons]; omega
  · rw [if_neg (by simpa using h), if_neg h]; omega
theorem cntB_zero {L : List Int} {q : Int} (h : ∀ z ∈ L, q ≤ z) : cntB L q = 0 := by
  induction L with
  | nil => rfl
  | cons a r ih =>
    rw [cntB_cons, ih fun z hz => h z (List.mem_cons_of_mem _ hz), if_neg (by have := h a (by simp); omega)]
theorem cntB_all {L : List Int} {q : Int} (h : ∀ z ∈ L, z < q) : cntB L q = L.length := by
  induction L with
  | nil => rfl
  | cons a r ih =>
    rw [cntB_cons, ih fun z hz => h z (List.mem_cons_of_mem _ hz), if_pos (h a (by simp)), List.length_cons]; omega
theorem cntB_not {L : List Int} {q : Int} (h : q ∉ L) : cntB L (q + 1) = cntB L q := by
  induction L with
  | nil => rfl
  | cons a r ih =>
    have h1 : a ≠ q := fun e => h (by rw [e]; simp)
    rw [cntB_cons, cntB_cons, ih fun hz => h (List.mem_cons_of_mem _ hz)]
    by_cases h2 : a < q
    · rw [if_pos h2, if_pos (by omega)]
    · rw [if_neg h2, if_neg (by omega)]
theorem cntB_mem {L : List Int} {q : Int} (hs : L.Pairwise (· < ·)) (h : q ∈ L) : L[cntB L q]? = some q ∧ cntB L (q + 1) = cntB L q + 1 := by
  induction L with
  | nil => cases h
  | cons a r ih =>
    obtain ⟨h1, h2⟩ := List.pairwise_cons.1 hs
    rw [cntB_cons, cntB_cons]
    rcases List.mem_cons.1 h with rfl | h
    · have z1 : cntB r q = 0 := cntB_zero fun z hz => by have := h1 z hz; omega
      have z2 : cntB r (q + 1) = 0 := cntB_zero fun z hz => by have := h1 z hz; omega
      rw [z1, z2, if_neg (by omega), if_pos (by omega)]
      exact ⟨rfl, rfl⟩
    · have h3 := h1 q h
      obtain ⟨a1, a2⟩ := ih h2 h
      rw [if_pos (by omega), if_pos (by omega)]
      refine ⟨?_, by omega⟩
      rw [Nat.add_comm 1, List.getElem?_cons_succ]
      exact a1

theorem lit_row (W : World) (x : Int) : (W.alloc (.cells #[.int .i64 x, .int .i64 x] 3)).ownsRow W.heap.size 3 1 (.slice (some ⟨W.heap.size, 0, none⟩) 2 2) 2 (cellsI [x, x]) :=
  ⟨rfl, .inr ⟨W.heap.size, 2, #[.int .i64 x, .int .i64 x], rfl, Nat.le_refl _, heap_alloc_new _ _, Nat.le_refl _, by decide, rfl, rfl⟩⟩
theorem cellsI_one (T : List Int) : ∀ u ∈ cellsI T, u.oneCell' = true := fun u hu => by
  unfold cellsI at hu
  obtain ⟨n, _, rfl⟩ := List.mem_map.1 hu
  rfl
theorem row_newsI {W : World} {B g n cap : Nat} {T : List Int} (h : W.ownsRow B 3 1 (.slice (some ⟨g, 0, none⟩) n cap) n (cellsI T)) (hn : T.length = n) : ∀ j u, (cellsI T)[j]? = some u → W.cell? ((⟨g, 0, none⟩ : Addr).add j) = some u := fun j u hu => by
  obtain ⟨g', c', e, hc, _⟩ := own_at h hu (by unfold cellsI; rw [List.length_map, hn])
  simp only [Value.slice.injEq, Option.some.injEq, Addr.mk.injEq, and_true] at e
  obtain ⟨rfl, _⟩ := e
  rw [Addr.add_lit, Nat.zero_add]
  exact hc
theorem back_row {W w5 : World} {x : Int} {T : List Int} {v' : Value} (hown : w5.ownsRow W.heap.size 3 1 v' (2 + T.length) (cellsI [x, x] ++ cellsI T)) : w5.ownsRow W.heap.size 3 1 v' (x :: x :: T).length (cellsI (x :: x :: T)) := by
  have e : (x :: x :: T).length = 2 + T.length := by simp only [List.length_cons]; omega
  rw [e]
  exact hown

set_option maxHeartbeats 16000000 in
set_option maxRecDepth 100000 in
theorem uniW9 (puts : Int) (a1 : Option Addr) (len1 cap1 : Nat) (zs : List Int) (w : World) (wn : (Lit.int .i64 puts).wf = true) (w1 : IsRow .i64 w a1 len1 cap1 zs) :
    Calls Try.prog 5 #[.int .i64 puts, .slice a1 len1 cap1] w fun e w' => e = .returned (.bool true) ∧ KeptIn (· < w.heap.size) w w' := by
  have l1 := w1.len_le
  unfold maxLen at l1
  have b1 : (len1 : Int) ≤ 9223372036854775807 := by omega
  obtain ⟨j0, hj0, n1⟩ : ∃ k : Nat, k < 100 ∧ wrap64 ((IntKind.u64.wrap puts).tmod 100) = (k : Int) := modWalk puts 100 (by decide) (by decide)
  obtain ⟨k, hk⟩ : ∃ k, k = j0 + 1 := ⟨_, rfl⟩
  obtain ⟨n2, n3⟩ := uni_num j0 k hk hj0
  have hk100 : k ≤ 100 ∧ 0 < k := by omega
  have WA := Lib.hid w1
  obtain ⟨ii, hii, hi0, hi1, hi2⟩ := info_parts infoInt9
  clear hk hj0 wn w1 l1
  go_enter Try.func5, Try.ntmps5
  go_wp2_with fail
  refine (awake9 w).mono ?_
  rintro e w3 ⟨rfl, k3⟩
  have HK3 := Lib.hid k3
  clear k3
  by_cases hbig : 6 < len1
  · have b2 : (6 : Int) < (len1 : Int) := by omega
    go_wp2_with fail
    go_ret
    exact ⟨rfl, HK3.out⟩
  have b2 : ¬ (6 : Int) < (len1 : Int) := by omega
  have len6 : len1 ≤ 6 := by omega
  obtain ⟨W1, hW1⟩ : ∃ W1, w3.alloc (.cells #[.slice none 0 0, .int .i64 511] 30) = W1 := ⟨_, rfl⟩
  obtain ⟨s, hs⟩ : ∃ s, w3.heap.size = s := ⟨_, rfl⟩
  obtain ⟨W2, hW2⟩ : ∃ W2, W1.alloc (.cells #[.int .i64 0] 3) = W2 := ⟨_, rfl⟩
  have h0 := un_zero w3 W1 W2 s hs hW1 hW2
  have hs1 : W1.heap.size = s + 1 := by rw [← hW1, World.size_alloc, hs]
  have HI0 := Lib.hid h0
  have HW := Lib.hid (And.intro hW1 (And.intro hs (And.intro hW2 hs1)))
  have HT6 := Lib.hid len6
  clear h0 hW1 hs hW2 hs1 hbig
  go_upto_region 6 with fail
  rw [HW.out.1, HW.out.2.1]
  go_wp2_with fail
  rw [HW.out.2.2.1, HW.out.2.2.2]
  clear HW
  have HN := Lib.hid (And.intro n1 (And.intro n2 n3))
  go_loopw [6, 7, 8, 9, 10] (fun v r i _ _ wr => ∃ (j root : Nat) (V : World) (qs : Pairs) (N : List Nd) (D : Nat → Prop) (R : List Int) (u : Value), V = wr ∧ u = v ∧ j ≤ k ∧ i = .int .i64 (j : Int) ∧ r = .int .i64 (root : Int) ∧ Hid (Un w3 s root j qs N D R u V ∧ R.length = j + 1)) (fun _ _ i _ _ _ => k - (intOf i).toNat)
  case atStart => exact ⟨0, 0, _, _, _, _, _, _, rfl, rfl, Nat.zero_le _, rfl, rfl, Lib.hid ⟨HI0.out, rfl⟩⟩
  case round =>
    obtain ⟨j, root, V, qs, N, D, R, u, rfl, rfl, hj, rfl, rfl, HJ⟩ := hrel
    clear HI0
    have d0 : (0 : Int) ≤ (j : Int) := by omega
    by_cases hlt : j < k
    · have d1 : (j : Int) < (k : Int) := by omega
      obtain ⟨m, q, m1, m2, m3, m4, m5, hq, hm⟩ := uni_key j (by omega)
      have HP := Lib.hid (hsPut (k := q) (v := 1) HJ.out.1.sh HJ.out.1.t (by have := HJ.out.1.nl; omega) (by omega) (by omega) (by omega) (by decide))
      rw [show ((1 : Nat) : Int) = 1 from rfl] at HP
      unfold pgV at HP
      go_wp2_with fail
      refine HP.out.mono ?_
      rintro e V2 ⟨r, rfl, hc⟩
      obtain ⟨M, D2, hu2⟩ := HJ.out.1.change hc
      have H2 := Lib.hid (And.intro hu2 HJ.out.2)
      have HB := Lib.hid (And.intro (show R.length + 1 ≤ maxLen by have := HJ.out.2; unfold maxLen; omega) (And.intro (show (R.length + 1) * 8 ≤ 140737488355328 by have := HJ.out.2; omega) (show w3.heap.size ≤ (V2.alloc (.cells #[.int .i64 (r : Int)] 3)).heap.size by have := hu2.kept.size; rw [World.size_alloc]; omega)))
      clear hc hu2 HP HJ m1 m2 m3 m4 m5
      go_wp2_with (first
        | (at_builtin; refine wpList_append_lies _ rfl _ _ 23 rfl w3.heap.size 3 ii _ 1 8 Try.underlying23 hii hi0 hi1 hi2 rfl (by decide) _ _ _ rfl (H2.out.1.row.alloc _) ⟨V2.heap.size, 0, none⟩ 1 1 [.int .i64 (r : Int)] rfl rfl (cell_one_new _ _ _) (by simp [Value.oneCell']) (by decide) HB.out.1 HB.out.2.1 HB.out.2.2 (V2.heap.size + 1) (by simp) ?_; intro g1 cp1 V4 hown1 hgrow1 hat1 hlt1; have H4 := Lib.hid (And.intro (H2.out.1.push hgrow1 hat1 hown1) (show (R ++ [(r : Int)]).length = j + 1 + 1 by rw [List.length_append, H2.out.2]; rfl)); clear hown1 hgrow1 hat1 hlt1))
      clear H2 HB
      go_roundw
      case rel => exact ⟨j + 1, r, _, _, _, _, _, _, rfl, rfl, by omega, by go_num, rfl, H4⟩
      case measure => simp only [intOf]; omega
    · obtain rfl : j = k := by omega
      have d1 : ¬ (j : Int) < (j : Int) := by omega
      clear hlt
      obtain ⟨g0, cp0, rfl, hg1, hg2⟩ := World.ownsRow.form HJ.out.1.row (by rw [HJ.out.2]; omega)
      obtain ⟨n, hn⟩ : ∃ n, R.length = n := ⟨_, rfl⟩
      have hn2 : n = j + 1 := by rw [← hn, HJ.out.2]
      have HU := Lib.hid HJ.out.1
      rw [hn] at HU ⊢
      obtain ⟨B, hB⟩ : ∃ B, V.heap.size = B := ⟨_, rfl⟩
      obtain ⟨X, hX⟩ : ∃ X, (V.alloc (.cells #[] 3)).alloc (.cells #[] 3) = X := ⟨_, rfl⟩
      obtain ⟨gb, hgb⟩ : ∃ gb, X.heap.size = gb := ⟨_, rfl⟩
      have hB1 : (V.alloc (.cells #[] 3)).heap.size = B + 1 := by rw [World.size_alloc, hB]
      have HXE := Lib.hid (And.intro hX (And.intro hB (And.intro hB1 hgb)))
      have HRN := Lib.hid (And.intro hn hn2)
      clear HJ hg1 hg2 hn hn2 hB hX hgb hB1
      go_upto_region 18 with fail
      rw [HXE.out.1]
      simp only [HXE.out.2.1]
      go_wp2_with (first | (refine wpList_build_rowB rfl rfl ?_) | (refine wpList_alloc_rowB rfl rfl ?_))
      intro X2 hr2 hk2 hz2
      have HR2 := Lib.hid (And.intro hr2 (And.intro hk2 hz2))
      clear hr2 hk2 hz2
      rw [HXE.out.2.2.2]
      go_wp2_with (refine wpList_store_rowB rfl _ _ rfl gb falses falses rfl rfl falses_length falses_length (by have h := HR2.out.1; rw [HXE.out.2.2.2] at h; exact h) ?_)
      intro X3 hr3 hk3 hz3
      have HI1 : Hid (Ul V B gb 0 N R [] [] falses (.slice (some ⟨B, 0, none⟩) 0 0) (.slice (some ⟨B + 1, 0, none⟩) 0 0) X3) := Lib.hid ⟨ud_zero V X X2 X3 B gb HXE.out.2.1 HXE.out.1 HR2.out.1 HR2.out.2.1 HXE.out.2.2.2 hr3 hk3, rfl, rfl, fun x => Iff.rfl, fun x hx => (by cases hx), ⟨_, _, rfl⟩, MkI.zero.iff fun q => ⟨fun h => h.elim, fun h => absurd h (unN_nil (by have := HU.out.nl; omega))⟩⟩
      clear hr3 hk3 hz3 HR2
      go_wp2_with fail
      have HB := Lib.hid HXE.out.2.1
      clear n1 n2 n3 HXE HN b2 len6 hj d0 d1
      go_loopw [11, 12, 14, 15, 16, 17, 18] (fun u1 u2 i _ _ _ _ wr => ∃ (t : Nat) (W : World) (S T : List Int) (nb : List Bool) (v1 v2 : Value), W = wr ∧ v1 = u1 ∧ v2 = u2 ∧ t ≤ len1 ∧ i = .int .i64 (t : Int) ∧ Hid (Ul V B gb t N R S T nb v1 v2 W)) (fun _ _ i _ _ _ _ _ => len1 - (intOf i).toNat)
      case atStart => exact ⟨0, _, _, _, _, _, _, rfl, rfl, rfl, Nat.zero_le _, rfl, HI1⟩
      case round =>
        obtain ⟨t, W, S, T, nb, v1, v2, rfl, rfl, rfl, ht, rfl, HL⟩ := hrel
        clear HI1
        obtain ⟨g2, c2, rfl⟩ := HL.out.2.2.2.2.2.1
        have t0 : (0 : Int) ≤ (t : Int) := by omega
        by_cases htl : t < len1
        · have t1 : (t : Int) < (len1 : Int) := by omega
          obtain ⟨b, off, rfl, hb, hel⟩ := WA.out.elem (by omega)
          obtain ⟨e0, -⟩ := hel t htl
          obtain ⟨z, hz⟩ : ∃ z, zs.getD t 0 = z := ⟨_, rfl⟩
          rw [hz] at e0
          have hkV : KeptIn (· < V.heap.size) V W := by rw [HB.out]; exact HL.out.1.k
          have hkw : KeptIn (· < w.heap.size) w W := HK3.out.go (HU.out.kept.go hkV)
          have y0 := (World.cell?_of_block (hkw.block b hb)).trans e0
          obtain ⟨p, hp, hpm⟩ := modWalk z n (by have := HRN.out.2; omega) (by have := HRN.out.2; omega)
          obtain ⟨x, hx⟩ : ∃ x, R[p]? = some x := ⟨_, List.getElem?_eq_getElem (by rw [HRN.out.1]; exact hp)⟩
          obtain ⟨gz, cz, ez, hcz, -⟩ := own_at (HU.out.old hkV).row (j := p) (u := .int .i64 x) (by unfold cellsI; rw [List.getElem?_map, hx]; rfl) (by unfold cellsI; rw [List.length_map])
          simp only [Value.slice.injEq, Option.some.injEq, Addr.mk.injEq, and_true] at ez
          obtain ⟨rfl, -, rfl⟩ := ez
          have n4 : (n : Int) ≤ 101 := by have := HRN.out.2; omega
          have n5 : IntKind.u64.wrap (n : Int) = (n : Int) := by rw [IntKind.wrap_u64]; omega
          have n6 : (0 : Int) < (n : Int) := by omega
          have p0 : (0 : Int) ≤ (p : Int) := by omega
          have p1 : (p : Int) < (n : Int) := by omega
          have HX := Lib.hid (And.intro (List.mem_of_getElem? hx) ht)
          have HB1 := Lib.hid (And.intro (show S.length + 1 ≤ maxLen by have := HL.out.2.1; unfold maxLen; omega) (And.intro (show (S.length + 1) * 8 ≤ 140737488355328 by have := HL.out.2.1; omega) (show B ≤ (W.alloc (.cells #[.int .i64 x] 3)).heap.size by have := HL.out.1.k.size; rw [HB.out] at this; rw [World.size_alloc]; omega)))
          have HB2 := Lib.hid (And.intro (show 2 + T.length ≤ maxLen by have := HL.out.2.2.1; unfold maxLen; omega) (show (2 + T.length) * 8 ≤ 140737488355328 by have := HL.out.2.2.1; omega))
          have HL2 := Lib.hid HL.out.2
          clear e0 hkV hkw hb hel hz hx hp
          go_wp2_with (first
            | (at_builtin; refine wpList_append_lies _ rfl _ _ 23 rfl B 3 ii _ 1 8 Try.underlying23 hii hi0 hi1 hi2 rfl (by decide) _ _ _ rfl (HL.out.1.r1.alloc _) ⟨W.heap.size, 0, none⟩ 1 1 [.int .i64 x] rfl rfl (cell_one_new _ _ _) (by simp [Value.oneCell']) (by decide) HB1.out.1 HB1.out.2.1 HB1.out.2.2 (W.heap.size + 1) (by simp) ?_; intro g1 cp1 W4 hown1 hgrow1 hat1 hlt1; have H4 := Lib.hid (HL.out.1.push HB.out hgrow1 hat1 hown1); have HK4 : Hid (KeptIn (· < W4.heap.size) W4 (W4.alloc (.cells #[.int .i64 x, .int .i64 x] 3))) := Lib.hid ((KeptIn.refl _ W4).alloc (fun _ h => h) _); have H4a := Lib.hid (H4.out.old HB.out HK4.out); clear hown1 hgrow1 hat1 hlt1)
            | (at_builtin; refine wpList_append_own _ rfl _ _ 23 rfl W4.heap.size 3 ii _ 1 8 Try.underlying23 hii hi0 hi1 hi2 rfl (by decide) (.slice (some ⟨W4.heap.size, 0, none⟩) 2 2) 2 (cellsI [x, x]) rfl (lit_row W4 x) ⟨g2, 0, none⟩ T.length c2 (cellsI T) rfl (by unfold cellsI; rw [List.length_map, Nat.mul_one]) (row_newsI H4a.out.r2 rfl) (cellsI_one T) HB2.out.1 HB2.out.2 HK4.out.size ?_))
          intro v' w5 hown hgrow _
          have hk5 : KeptIn (· < W4.heap.size) W4 w5 := HK4.out.grown (fun k hk => hk) hgrow (fun g e => by
            obtain rfl : W4.heap.size = g := by simpa [Value.ownBlock] using e
            exact Nat.lt_irrefl _)
          have h5 := H4.out.back HB.out hk5 (back_row hown)
          obtain ⟨g3, c3, rfl, -⟩ := World.ownsRow.form h5.r2 (by simp)
          have H5 := Lib.hid h5
          have hV5 : KeptIn (· < V.heap.size) V w5 := by rw [HB.out]; exact h5.k
          have ka : KeptIn (· < w5.heap.size) w5 (w5.alloc (.cells (cellsI [x]).toArray 3)) := (KeptIn.refl _ w5).alloc (fun _ h => h) _
          have hux : UnT N x := HU.out.all x HX.out.1
          have HP := Lib.hid (unPages (HU.out.sh.old (hV5.go ka)) (n := 1) (cap := 1) (ints_new9 w5 [x] (by simp)) rfl (by omega) (fun y hy => by rw [List.mem_singleton] at hy; rw [hy]; exact hux))
          unfold pgV at HP
          have HKA := Lib.hid ka
          have HUX := Lib.hid hux
          obtain ⟨P, hP⟩ : ∃ P, unN N [x] = P := ⟨_, rfl⟩
          obtain ⟨np, hnp⟩ : ∃ np, P.length = np := ⟨_, rfl⟩
          rw [hP] at HP
          have HPE := Lib.hid (And.intro hP hnp)
          clear hown hgrow hk5 h5 H4a HK4 H4 HB1 HB2 hcz y0 hV5 ka hux hP hnp
          go_wp2_with fail
          refine HP.out.mono ?_
          rintro e w6 hR
          unfold PzS at hR
          obtain ⟨v6, rfl, hr6, hk6⟩ := hR
          obtain ⟨a6, c6, rfl⟩ := row_slice9 hr6
          rw [HPE.out.2] at hr6 ⊢
          obtain ⟨B6, hB6⟩ : ∃ B6, (w5.alloc (.cells (cellsI [x]).toArray 3)).heap.size = B6 := ⟨_, rfl⟩
          rw [hB6] at hr6
          have np5 : np ≤ 512 := by rw [← HPE.out.2, ← HPE.out.1]; exact unN_length _ _
          have hT2 : (x :: x :: T).length = T.length + 2 := rfl
          have H6 : Hid (Ud V B gb (S ++ [x]) (x :: x :: T) (mkB nb (P.take 0)) (.slice (some ⟨g1, 0, none⟩) (S.length + 1) cp1) (.slice (some ⟨g3, 0, none⟩) (x :: x :: T).length c3) w6 ∧ w6.ownsRow B6 3 1 (.slice a6 np c6) np (cellsI P)) := Lib.hid ⟨H5.out.old HB.out (HKA.out.go hk6), hr6⟩
          clear hr6 hk6 hB6 H5 HP HKA hT2
          go_wp2_with fail
          go_loopw [18] (fun i wr => ∃ (q : Nat) (U : World), U = wr ∧ q ≤ np ∧ i = .int .i64 (q : Int) ∧ Hid (Ud V B gb (S ++ [x]) (x :: x :: T) (mkB nb (P.take q)) (.slice (some ⟨g1, 0, none⟩) (S.length + 1) cp1) (.slice (some ⟨g3, 0, none⟩) (x :: x :: T).length c3) U ∧ U.ownsRow B6 3 1 (.slice a6 np c6) np (cellsI P))) (fun i _ => np - (intOf i).toNat)
          case atStart => exact ⟨0, _, rfl, Nat.zero_le _, rfl, H6⟩
          case round =>
            obtain ⟨q, U, rfl, hqn, rfl, HQ⟩ := hrel
            clear H6
            have q0 : (0 : Int) ≤ (q : Int) := by omega
            by_cases hql : q < np
            · have q1 : (q : Int) < (np : Int) := by omega
              obtain ⟨y, hy⟩ : ∃ y, P[q]? = some y := ⟨_, List.getElem?_eq_getElem (by rw [HPE.out.2]; exact hql)⟩
              have hyb : 0 ≤ y ∧ y < 512 := by
                have h1 := List.mem_of_getElem? hy
                rw [← HPE.out.1] at h1
                unfold unN need9 at h1
                have h2 := mem_upTo.1 h1
                exact ⟨h2.1, h2.2.1⟩
              obtain ⟨yn, rfl⟩ : ∃ yn : Nat, y = (yn : Int) := ⟨y.toNat, by omega⟩
              have y1 : (0 : Int) ≤ (yn : Int) := by omega
              have y2 : (yn : Int) < 512 := by omega
              have y3 : yn < 512 := by omega
              obtain ⟨g6, c6', e6, hc6, -⟩ := own_at HQ.out.2 (j := q) (u := .int .i64 (yn : Int)) (by unfold cellsI; rw [List.getElem?_map, hy]; rfl) (by unfold cellsI; rw [List.length_map, HPE.out.2])
              simp only [Value.slice.injEq] at e6
              obtain ⟨rfl, -, rfl⟩ := e6
              obtain ⟨bb, hbb⟩ : ∃ bb, (mkB nb (P.take q))[yn]? = some bb := ⟨_, List.getElem?_eq_getElem (by rw [mkB_length, HL2.out.2.2.2.2.2.1]; exact y3)⟩
              have f0 := HQ.out.1.nd.cell hbb
              have f1 := HQ.out.1.nd.fro yn
              have HQ2 : Hid (Ud V B gb (S ++ [x]) (x :: x :: T) (mkB nb (P.take (q + 1))) (.slice (some ⟨g1, 0, none⟩) (S.length + 1) cp1) (.slice (some ⟨g3, 0, none⟩) (x :: x :: T).length c3) (U.setCell ⟨gb, yn, none⟩ (.bool true)) ∧ (U.setCell ⟨gb, yn, none⟩ (.bool true)).ownsRow B6 3 1 (.slice (some ⟨g6, 0, none⟩) np c6) np (cellsI P)) := Lib.hid ⟨by
                obtain ⟨h1, h2⟩ := List.getElem?_eq_some_iff.1 hy
                rw [List.take_succ_eq_append_getElem h1, h2, mkB_snoc]
                exact HQ.out.1.set yn, rowS_block HQ.out.2 fun g e => ((KeptIn.refl (· ≠ gb) U).setCell (p := ⟨gb, yn, none⟩) (by simp) _).block g fun e2 => by
                  obtain ⟨cs, fr, hc⟩ := own_type HQ.out.2 e
                  have h1 : U.heap[gb]? = _ := HQ.out.1.nd
                  rw [← e2] at h1
                  have := h1.symm.trans hc
                  simp at this⟩
              clear hy hyb hbb HQ
              go_wp2_with fail
              go_roundw
              case rel => exact ⟨q + 1, _, rfl, by omega, by go_num, HQ2⟩
              case measure => simp only [intOf]; omega
            · obtain rfl : q = np := by omega
              have q1 : ¬ (q : Int) < (q : Int) := by omega
              have hall := HQ.out.1
              rw [List.take_of_length_le (by rw [HPE.out.2]; exact Nat.le_refl _)] at hall
              have hsl : (S ++ [x]).length = S.length + 1 := by rw [List.length_append]; rfl
              have HE : Hid (Ul V B gb (t + 1) N R (S ++ [x]) (x :: x :: T) (mkB nb P) (.slice (some ⟨g1, 0, none⟩) (S.length + 1) cp1) (.slice (some ⟨g3, 0, none⟩) (x :: x :: T).length c3) U) := Lib.hid ⟨hall, by rw [hsl, HL2.out.1], by simp only [List.length_cons]; rw [HL2.out.2.1]; omega, fun z => by
                rw [List.mem_append, List.mem_singleton, List.mem_cons, List.mem_cons, HL2.out.2.2.1 z]
                exact ⟨fun h => h.elim .inr fun h => h.elim .inr .inl, fun h => h.elim (fun h => .inr (.inr h)) .inl⟩, fun z hz => by
                rcases List.mem_append.1 hz with hz | hz
                · exact HL2.out.2.2.2.1 z hz
                · rw [List.mem_singleton] at hz; rw [hz]; exact HX.out.1, ⟨_, _, rfl⟩, (HL2.out.2.2.2.2.2.mk P (fun z hz => by
                rw [← HPE.out.1] at hz
                unfold unN need9 at hz
                exact (mem_upTo.1 hz).1)).iff fun z => by
                rw [unN_snoc (by have := HU.out.sh.len; omega) (fun y hy => HU.out.all y (HL2.out.2.2.2.1 y hy)) HUX.out, HPE.out.1]⟩
              clear HQ hall hsl
              go_wp2_with fail
              go_roundw
              case rel => exact ⟨t + 1, _, _, _, _, _, _, rfl, rfl, rfl, by omega, by go_num, HE⟩
              case measure => simp only [intOf]; omega
        · obtain rfl : t = len1 := by omega
          have t1 : ¬ (t : Int) < (t : Int) := by omega
          obtain ⟨aS, cS, rfl⟩ := row_slice9 HL.out.1.r1
          have hkV : KeptIn (· < V.heap.size) V W := by rw [HB.out]; exact HL.out.1.k
          have hu1 : ∀ y ∈ S, UnT N y := fun y hy => HU.out.all y (HL.out.2.2.2.2.1 y hy)
          have hu2 : ∀ y ∈ T, UnT N y := fun y hy => hu1 y ((HL.out.2.2.2.1 y).1 hy)
          have hsame : unN N T = unN N S := unN_same (by have := HU.out.sh.len; omega) hu2 hu1 HL.out.2.2.2.1
          have ht6 : t ≤ 6 := HT6.out
          have HP1 := Lib.hid (unPages (HU.out.sh.old hkV) (cap := cS) (rowIntsL HL.out.1.r1 (by have := HL.out.2.1; unfold maxLen; omega)) HL.out.2.1 (by omega) hu1)
          have HP2 := Lib.hid fun V' (hV : KeptIn (· < W.heap.size) W V') => unPages (HU.out.sh.old (hkV.go hV)) (cap := c2) (rowIntsL (HL.out.1.old HB.out hV).r2 (by have := HL.out.2.2.1; unfold maxLen; omega)) rfl (by have := HL.out.2.2.1; omega) hu2
          rw [hsame] at HP2
          obtain ⟨Ls, hLs⟩ : ∃ Ls, unN N S = Ls := ⟨_, rfl⟩
          obtain ⟨nL, hnL⟩ : ∃ nL, Ls.length = nL := ⟨_, rfl⟩
          rw [hLs] at HP1 HP2
          have hmk := HL.out.2.2.2.2.2.2
          rw [hLs] at hmk
          have hsrt : Ls.Pairwise (· < ·) := by rw [← hLs]; exact unN_srt _ _
          have hbd : ∀ z ∈ Ls, 0 ≤ z ∧ z < 512 := fun z hz => by
            rw [← hLs] at hz
            unfold unN need9 at hz
            have h2 := mem_upTo.1 hz
            exact ⟨h2.1, h2.2.1⟩
          have HM := Lib.hid (And.intro hnL (And.intro hmk (And.intro hsrt hbd)))
          have hnl5 : nL ≤ 512 := by rw [← hnL, ← hLs]; exact unN_length _ _
          obtain ⟨nS, hnS⟩ : ∃ nS, S.length = nS := ⟨_, rfl⟩
          have hSt : nS = t := by rw [← hnS, HL.out.2.1]
          have HND := Lib.hid HL.out.1.nd
          have HKW := Lib.hid (HK3.out.go (HU.out.kept.go hkV))
          rw [hnS]
          subst hSt
          unfold pgV at HP1 HP2
          clear hkV hu1 hu2 hsame ht6 hLs hnL hmk hsrt hbd hnS HL
          go_wp2_with fail
          refine HP1.out.mono ?_
          rintro e w7 hR
          unfold PzS at hR
          obtain ⟨v7, rfl, hr7, hk7⟩ := hR
          obtain ⟨a7, c7, rfl⟩ := row_slice9 hr7
          have HP3 := Lib.hid (HP2.out w7 hk7)
          have HR7 := Lib.hid (And.intro hr7 hk7)
          clear hr7 hk7 HP1 HP2
          go_wp2_with fail
          refine HP3.out.mono ?_
          rintro e w8 hR
          unfold PzS at hR
          obtain ⟨v8, rfl, hr8, hk8⟩ := hR
          obtain ⟨a8, c8, rfl⟩ := row_slice9 hr8
          have h7 : w8.ownsRow W.heap.size 3 1 (.slice a7 Ls.length c7) Ls.length (cellsI Ls) := rowS_block HR7.out.1 fun g e => hk8.block g (rowS_lt HR7.out.1 g e).2
          have hnd : RowB gb nb w8 := (HND.out.kept HR7.out.2 HND.out.lt).kept hk8 (Nat.lt_of_lt_of_le HND.out.lt HR7.out.2.size)
          have hkE : KeptIn (· < w.heap.size) w w8 := (HKW.out.go HR7.out.2).go hk8
          rw [HM.out.1] at h7 hr8 ⊢
          have HA := Lib.hid (And.intro h7 (And.intro hr8 (And.intro hnd hkE)))
          clear h7 hr8 hnd hkE hk8 HR7 HP3 HND HKW
          go_wp2_with fail
          go_loopw [23, 24] (fun k i wr => ∃ (q : Nat) (U : World), U = wr ∧ wr = w8 ∧ q ≤ 512 ∧ i = .int .i64 (q : Int) ∧ k = .int .i64 (cntB Ls (q : Int) : Nat)) (fun _ i _ => 512 - (intOf i).toNat)
          case atStart => exact ⟨0, _, rfl, by trivial, Nat.zero_le _, rfl, by rw [cntB_zero (fun z hz => by have := (HM.out.2.2.2 z hz).1; omega)]; rfl⟩
          case round =>
            obtain ⟨q, U, rfl, rfl, hqn, rfl, rfl⟩ := hrel
            have q0 : (0 : Int) ≤ (q : Int) := by omega
            by_cases hql : q < 512
            · have q1 : (q : Int) < 512 := by omega
              obtain ⟨bb, hbb⟩ : ∃ bb, nb[q]? = some bb := ⟨_, List.getElem?_eq_getElem (by rw [HM.out.2.1.1]; exact hql)⟩
              have f0 := HA.out.2.2.1.cell hbb
              have hiff := HM.out.2.1.2 q hql
              rw [hbb, Option.some.injEq] at hiff
              obtain ⟨p, hp⟩ : ∃ p, cntB Ls (q : Int) = p := ⟨_, rfl⟩
              cases bb with
              | false =>
                have hcn := cntB_not (L := Ls) (q := (q : Int)) (fun h => Bool.noConfusion (hiff.2 h))
                have HC : Hid (cntB Ls ((q + 1 : Nat) : Int) = p) := Lib.hid (hcn.trans hp)
                rw [hp]
                clear hiff hbb hcn hp
                go_wp2_with fail
                go_roundw
                case rel => exact ⟨q + 1, _, rfl, by trivial, by omega, by go_num, by rw [HC.out]⟩
                case measure => simp only [intOf]; omega
              | true =>
                obtain ⟨hget, hcn⟩ := cntB_mem HM.out.2.2.1 (hiff.1 rfl)
                have HC : Hid (cntB Ls ((q + 1 : Nat) : Int) = p + 1) := Lib.hid (hcn.trans (by rw [hp]))
                rw [hp] at hget ⊢
                have hpl : p < nL := by
                  have := (List.getElem?_eq_some_iff.1 hget).1
                  rw [HM.out.1] at this
                  exact this
                obtain ⟨g7, cc7, e7, x7, -⟩ := own_at HA.out.1 (j := p) (u := .int .i64 (q : Int)) (by unfold cellsI; rw [List.getElem?_map, hget]; rfl) (by unfold cellsI; rw [List.length_map, HM.out.1])
                obtain ⟨g8, cc8, e8, x8, -⟩ := own_at HA.out.2.1 (j := p) (u := .int .i64 (q : Int)) (by unfold cellsI; rw [List.getElem?_map, hget]; rfl) (by unfold cellsI; rw [List.length_map, HM.out.1])
                simp only [Value.slice.injEq] at e7 e8
                obtain ⟨rfl, -, rfl⟩ := e7
                obtain ⟨rfl, -, rfl⟩ := e8
                have p0 : (0 : Int) ≤ (p : Int) := by omega
                have p1 : (p : Int) < (nL : Int) := by omega
                have p2 : decide (nL ≤ p) = false := decide_eq_false (by omega)
                clear hiff hbb hcn hp hget hpl
                go_wp2_with fail
                go_roundw
                case rel => exact ⟨q + 1, _, rfl, by trivial, by omega, by go_num, by rw [HC.out]; go_num⟩
                case measure => simp only [intOf]; omega
            · obtain rfl : q = 512 := by omega
              have hall : cntB Ls ((512 : Nat) : Int) = nL := by rw [cntB_all (fun z hz => by have := (HM.out.2.2.2 z hz).2; omega), HM.out.1]
              rw [hall]
              have HE := Lib.hid HA.out.2.2.2
              clear hall HA
              go_wp2_with fail
              go_ret
              exact ⟨by first | rfl | simp, HE.out⟩

end Go.Proofs.Ytjollbaohopmjaa
