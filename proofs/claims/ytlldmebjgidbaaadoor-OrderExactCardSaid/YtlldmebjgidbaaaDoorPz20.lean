/- Order: the document's Parse. -/
import Derived.Test.YtlldmebjgidbaaaDoorPq20
import Derived.Test.YtlldmebjgidbaaaDoorBl20
import Derived.Deep.RegionHeldLaw
set_option linter.unusedVariables false
set_option linter.unusedSimpArgs false
namespace Go.Proofs.YtlldmebjgidbaaaDoor
open Go.RowKit

def kx (w0 : List UInt8) (j : Nat) : Nat := match kindOf w0 with
  | some k => if k + 1 < j then k + 1 else 0
  | none => 0
theorem kx_one (w0 : List UInt8) : kx w0 1 = 0 := by
  unfold kx
  split
  · rw [if_neg (by omega)]
  · rfl
theorem kx_hit {w0 : List UInt8} {i : Nat} (hi : i < 15) (e : wordL i = w0) : kx w0 (i + 2) = i + 1 := by
  unfold kx
  rw [kindOf_some hi e (fun j hj h => by have := wordL_inj j (by omega) i hi (by rw [h, e]); omega)]
  simp
theorem kx_miss {w0 : List UInt8} {i : Nat} (hi : i < 15) (e : wordL i ≠ w0) : kx w0 (i + 2) = kx w0 (i + 1) := by
  unfold kx
  split
  · rename_i k hk
    obtain ⟨h1, h2⟩ := kindOf_is hk
    have hne : k ≠ i := fun h => e (by rw [← h]; exact h2)
    by_cases q : k + 1 < i + 1
    · rw [if_pos q, if_pos (by omega)]
    · rw [if_neg q, if_neg (by omega)]
  · rfl
theorem kx_last (w0 : List UInt8) : (kindOf w0 = none ∧ kx w0 16 = 0) ∨ ∃ k, k < 15 ∧ kindOf w0 = some k ∧ kx w0 16 = k + 1 := by
  unfold kx
  cases hk : kindOf w0 with
  | none => exact .inl ⟨rfl, rfl⟩
  | some k =>
    obtain ⟨h1, h2⟩ := kindOf_is hk
    refine .inr ⟨k, h1, rfl, ?_⟩
    show (if k + 1 < 16 then k + 1 else 0) = k + 1
    rw [if_pos (by omega)]

theorem rCounts' (w : World) : Calls Tryd.prog 34 #[] w fun e w' => ∃ g, e = .returned (.slice (some ⟨g, 0, none⟩) 16 16) ∧ (w'.heap[g]? = some (.cells cntC.toArray 90 (0, 0)) ∧ ∀ j v, cntC[j]? = some v → w'.cell? ⟨g, j, none⟩ = some v) ∧ KeptIn (· < w.heap.size) w w' := by
  refine (rCounts w).mono ?_
  rintro e W ⟨rfl, h, hK⟩
  refine ⟨_, rfl, ⟨h, fun j v hv => ?_⟩, hK⟩
  unfold World.cell?
  rw [h]
  simpa using hv
theorem cell2_0 {U : World} {z : Nat} {a b : Value} {t : TypeId} (h : U.heap[z]? = some (.cells #[a, b] t (0, 0))) : U.cell? ⟨z, 0, none⟩ = some a := by unfold World.cell?; rw [h]; rfl
theorem cell2_1 {U : World} {z : Nat} {a b : Value} {t : TypeId} (h : U.heap[z]? = some (.cells #[a, b] t (0, 0))) : U.cell? ⟨z, 1, none⟩ = some b := by unfold World.cell?; rw [h]; rfl
theorem frz2 {U : World} {z : Nat} {a b : Value} {t : TypeId} (h : U.heap[z]? = some (.cells #[a, b] t (0, 0))) : ∀ i, U.frozen? ⟨z, i, none⟩ = false := fun i => by simp [World.frozen?, h]
theorem shp2 {U : World} {z : Nat} {a b : Value} {t : TypeId} (h : U.heap[z]? = some (.cells #[a, b] t (0, 0))) : U.shape? z = some (t, 2) := by simp [World.shape?, h]
def Z5 (V V5 : World) (z c0 c1 : Nat) : Prop := KeptIn (· < V.heap.size) V V5 ∧ V5.heap[z]? = some (.cells #[.int .i64 (c0 : Int), .int .i64 (c1 : Int)] 90 (0, 0)) ∧ V.heap.size ≤ z
theorem z_alloc {V V2 : World} {c0 c1 : Nat} (hK2 : KeptIn (· < V.heap.size) V V2) : Z5 V (V2.alloc (.cells #[.int .i64 (c0 : Int), .int .i64 (c1 : Int)] 90)) V2.heap.size c0 c1 :=
  ⟨hK2.alloc (fun _ h => h) _, heap_alloc_new _ _, hK2.size⟩
theorem z_store {V V2 : World} {c0 c1 : Nat} (hK2 : KeptIn (· < V.heap.size) V V2) (h : V2.heap[V.heap.size]? = some (.cells #[.int .i64 0, .int .i64 0] 90 (0, 0))) : Z5 V ((V2.setCell ⟨V.heap.size, 0, none⟩ (.int .i64 (c0 : Int))).setCell ⟨V.heap.size, 1, none⟩ (.int .i64 (c1 : Int))) V.heap.size c0 c1 := by
  refine ⟨(hK2.setCell (Nat.lt_irrefl _) _).setCell (Nat.lt_irrefl _) _, ?_, Nat.le_refl _⟩
  have h1 : (V2.setCell ⟨V.heap.size, 0, none⟩ (.int .i64 (c0 : Int))).heap[V.heap.size]? = _ := heap_setCell_same _ _ _ _ _ _ h
  exact (heap_setCell_same _ _ _ _ _ _ h1).trans rfl
theorem results_ord2 {fn : Func} {p u : Tmp} (h : fn.results = #[.cell p 32, .tmp u]) (tmps : Array Value) (w : World) (y : Nat) (k : Int) (v1 v2 : Value) (b : Value)
    (hp : tmps.getD p undef = .pointer (some ⟨y, 0, none⟩)) (hu : tmps.getD u undef = b) (hb : BoxO y k v1 v2 w) : (results fn tmps).run Tryd.prog w = .ok (.tuple #[oS k v1 v2, b]) w := by
  have hr := run_loadVar_row (P := Tryd.prog) w y 32 32 _ _ _ hb Tryd.underlying32 rfl (by kernel_rfl)
  rw [results_cell_tmp h, hp, hu]
  simp [asAddr, hr, oS]
theorem cell3_0 {U : World} {z : Nat} {a b c : Value} {t : TypeId} (h : U.heap[z]? = some (.cells #[a, b, c] t (0, 0))) : U.cell? ⟨z, 0, none⟩ = some a := by unfold World.cell?; rw [h]; rfl
theorem cell3_1 {U : World} {z : Nat} {a b c : Value} {t : TypeId} (h : U.heap[z]? = some (.cells #[a, b, c] t (0, 0))) : U.cell? ⟨z, 1, none⟩ = some b := by unfold World.cell?; rw [h]; rfl
theorem cell3_2 {U : World} {z : Nat} {a b c : Value} {t : TypeId} (h : U.heap[z]? = some (.cells #[a, b, c] t (0, 0))) : U.cell? ⟨z, 2, none⟩ = some c := by unfold World.cell?; rw [h]; rfl
theorem frz3 {U : World} {z : Nat} {a b c : Value} {t : TypeId} (h : U.heap[z]? = some (.cells #[a, b, c] t (0, 0))) : ∀ i, U.frozen? ⟨z, i, none⟩ = false := fun i => by simp [World.frozen?, h]
theorem shp3 {U : World} {z : Nat} {a b c : Value} {t : TypeId} (h : U.heap[z]? = some (.cells #[a, b, c] t (0, 0))) : U.shape? z = some (t, 3) := by simp [World.shape?, h]
theorem lt_of_heap {U : World} {z : Nat} {o : Obj} (h : U.heap[z]? = some o) : z < U.heap.size := (Array.getElem?_eq_some_iff.1 h).1
theorem own_ge {W : World} {B : Nat} {t : TypeId} {z : Nat} {v : Value} {n : Nat} {xs : List Value} (h : W.ownsRow B t z v n xs) : ∀ g, v.ownBlock = some g → B ≤ g := by
  intro g hg
  rcases h.2 with ⟨rfl, _⟩ | ⟨g', cap, cur, rfl, h1, _⟩
  · simp [Value.ownBlock] at hg
  · simp [Value.ownBlock] at hg
    omega
theorem y_grown {W w8 : World} {B y : Nat} {t : TypeId} {z : Nat} {v : Value} {n : Nat} {xs : List Value} {o ob : Obj} (hy : W.heap[y]? = some o) (h : W.ownsRow B t z v n xs) (hB : y < B) (hg : (W.alloc ob).grownBy w8 v.ownBlock) : w8.heap[y]? = some o := by
  have hlt := lt_of_heap hy
  rw [hg.block y (by simp; omega) (fun e => by have := own_ge h y e.symm; omega), Lib.alloc_old _ _ _ hlt]
  exact hy
theorem k_grown {V W w8 : World} {y : Nat} {t : TypeId} {z : Nat} {v : Value} {n : Nat} {xs : List Value} {ob : Obj} (hK : KeptIn (fun k => k < V.heap.size ∧ k ≠ y) V W) (h : W.ownsRow V.heap.size t z v n xs) (hg : (W.alloc ob).grownBy w8 v.ownBlock) : KeptIn (fun k => k < V.heap.size ∧ k ≠ y) V w8 :=
  (hK.alloc (fun _ h => h.1) ob).grown (fun _ h => h.1) hg (fun g e hX => by have := own_ge h g e; omega)
theorem cnt_of (w0 : List UInt8) {x : Nat} (hx : x = kx w0 16) : ∃ c0 c1 : Nat, x < 16 ∧ c0 + c1 ≤ 3 ∧ cntC[x * 2]? = some (.int .i64 (c0 : Int)) ∧ cntC[x * 2 + 1]? = some (.int .i64 (c1 : Int)) ∧ ((x = 0 ∧ kindOf w0 = none) ∨ ∃ k, k < 15 ∧ x = k + 1 ∧ kindOf w0 = some k ∧ c0 = cn k ∧ c1 = ct k) := by
  rcases kx_last w0 with ⟨h1, h2⟩ | ⟨k, hk, h1, h2⟩
  · refine ⟨0, 0, by omega, by omega, ?_, ?_, .inl ⟨by omega, h1⟩⟩
    · rw [hx, h2]; rfl
    · rw [hx, h2]; rfl
  · obtain ⟨g1, g2⟩ := cntC_at k hk
    refine ⟨cn k, ct k, by omega, cn_ct k hk, by rw [hx, h2, Nat.mul_comm]; exact g1, by rw [hx, h2, Nat.mul_comm]; exact g2, .inr ⟨k, hk, by omega, h1, rfl, rfl⟩⟩

/-- What the document's Parse answers. -/
def PrR (o : Option Od) (e : Ending) (w' : World) : Prop := match o with
  | none => e = .returned (.tuple #[oS 0 (.slice none 0 0) (.slice none 0 0), .bool false])
  | some Q => ∃ a1 c1 a2 c2, e = .returned (.tuple #[oS ((Q.k + 1 : Nat) : Int) (.slice a1 Q.ns.length c1) (.slice a2 Q.ts.length c2), .bool true]) ∧ RdN a1 Q.ns w' ∧ RdT a2 Q.ts w'

set_option maxRecDepth 1000000 in
set_option maxHeartbeats 4000000 in
theorem rParse (l : List UInt8) (hbig : l.length ≤ 10000) (w : World) :
    Calls Tryd.prog 16 #[.string ⟨l.toArray⟩] w fun e w' => PrR (parseO l) e w' ∧ KeptIn (· < w.heap.size) w w' := by
  obtain ⟨po, hpo⟩ : ∃ po, parseO l = po := ⟨_, rfl⟩
  rw [hpo]
  replace hpo := Lib.hid hpo
  go_enter Tryd.func16, Tryd.ntmps16
  go_wp2_with fail
  obtain ⟨W0, hW0⟩ : ∃ W, w.alloc (.cells #[.int .i64 0, .slice none 0 0, .slice none 0 0] 32) = W := ⟨_, rfl⟩
  have hK0 : KeptIn (· < w.heap.size) w W0 := by rw [← hW0]; exact (KeptIn.refl _ _).alloc (fun _ h => h) _
  have hB0 : W0.heap[w.heap.size]? = some (.cells #[.int .i64 0, .slice none 0 0, .slice none 0 0] 32 (0, 0)) := by rw [← hW0]; exact heap_alloc_new _ _
  try rw [hW0]
  refine (rSplit l (by omega) W0).mono ?_
  rintro e W1 ⟨v, rfl, hS⟩
  obtain ⟨gl, cap, rfl, hcap, hgl, hcl⟩ := hS.read (wds_ne l)
  have hK1 : KeptIn (· < W0.heap.size) W0 W1 := hS.2.1
  have HK1 := Lib.hid (hK0.trans (hK1.mono fun k hk => Nat.lt_of_lt_of_le hk hK0.size))
  have HB1 : Hid (W1.heap[w.heap.size]? = some (.cells #[.int .i64 0, .slice none 0 0, .slice none 0 0] 32 (0, 0))) := Lib.hid (by
    rw [hK1.block _ (Array.getElem?_eq_some_iff.1 hB0).1]
    exact hB0)
  obtain ⟨w0, rest, hL⟩ : ∃ w0 rest, wds l = w0 :: rest := by
    cases h : wds l with
    | nil => exact absurd h (wds_ne l)
    | cons a b => exact ⟨a, b, rfl⟩
  have hlen := wds_len l
  rw [hL] at hcl hcap ⊢
  obtain ⟨nL, hnL⟩ : ∃ n, (w0 :: rest).length = n := ⟨_, rfl⟩
  rw [hL, hnL] at hlen
  rw [hnL] at hcap ⊢
  have hnl0 : Hid (1 ≤ nL ∧ nL ≤ 10001 ∧ rest.length + 1 = nL) := Lib.hid ⟨by rw [← hnL]; simp, by omega, by rw [← hnL]; rfl⟩
  have n0' : 0 < nL := by rw [← hnL]; simp
  have n0 : (0 : Int) < (nL : Int) := by omega
  have HL : Hid (∀ V, KeptIn (· < W1.heap.size) W1 V → (V.cell? ⟨gl, 0, none⟩ = some (.string ⟨w0.toArray⟩) ∧ ∀ j x, rest[j]? = some x → V.cell? ⟨gl, j + 1, none⟩ = some (.string ⟨x.toArray⟩))) := Lib.hid fun V hK => by
    refine ⟨cell_old hK ?_, fun j x hx => cell_old hK ?_⟩
    · have := hcl 0 w0 rfl
      rwa [Nat.zero_add] at this
    · have := hcl (j + 1) x (by simpa using hx)
      rwa [Nat.zero_add] at this
  replace hL := Lib.hid hL
  clear hS hK1 hK0 hB0 hW0 hgl hcl hnL hcap hlen
  go_wp2_with fail
  go_loopw [6] (fun i wr => ∃ (j x : Nat) (V : World), V = wr ∧ i = .int .i64 (j : Int) ∧ Hid (1 ≤ j ∧ j ≤ 16 ∧ KeptIn (· < W1.heap.size) W1 V ∧ V.heap[W1.heap.size]? = some (.cells #[.int .i64 (x : Int), .slice none 0 0, .slice none 0 0] 32 (0, 0)) ∧ x = kx w0 j)) (fun i _ => 16 - (RowKit.intOf i).toNat)
  case atStart => exact ⟨1, 0, _, rfl, rfl, Nat.le_refl _, by decide, (KeptIn.refl _ _).alloc (fun _ h => h) _, heap_alloc_new _ _, (kx_one w0).symm⟩
  case round =>
    obtain ⟨j, x, V, rfl, rfl, H⟩ := hrel
    obtain ⟨hj1, hj, hK, hy, hx⟩ := H.out
    clear H
    by_cases hp : j < 16
    · obtain ⟨i, rfl⟩ : ∃ i, j = i + 1 := ⟨j - 1, by omega⟩
      have hi : i < 15 := by omega
      have hwi := Lib.hid (wordsC_at i hi)
      have d1 : decide (((i + 1 : Nat) : Int) ≤ 15) = true := decide_eq_true (by omega)
      have d2 : ((i + 1 : Nat) : Int) < 16 := by omega
      have d3 : (0 : Int) ≤ ((i + 1 : Nat) : Int) := by omega
      have d1' : decide ((i : Int) + 1 ≤ 15) = true := decide_eq_true (by omega)
      have d2' : (i : Int) + 1 < 16 := by omega
      have d3' : (0 : Int) ≤ (i : Int) + 1 := by omega
      have hw1 := wrap_succ (i + 1) (by omega)
      have hc0 := (HL.out V hK).1
      have hc1 := (HL.out V.drew hK.drew).1
      have hHK := Lib.hid hK
      have hHy := Lib.hid hy
      have hHx := Lib.hid hx
      have hp2 := Lib.hid hp
      have hkk1 : Hid (wordL i = w0 → kx w0 (i + 2) = i + 1) := Lib.hid fun e => kx_hit hi e
      have hkk2 : Hid (wordL i ≠ w0 → kx w0 (i + 2) = kx w0 (i + 1)) := Lib.hid fun e => kx_miss hi e
      obtain ⟨wi, hwi2⟩ : ∃ l, wordL i = l := ⟨_, rfl⟩
      rw [hwi2] at hwi hkk1 hkk2
      clear hwi2 hj1 hj hp hK hy hx hi
      by_cases he : wi = w0
      · have q1 : (wi == w0) = true := beq_iff_eq.2 he
        replace he := Lib.hid he
        go_wp2_with fail
        go_region_law (first | (go_simp; refine (rWords' _).mono ?_; rintro e V2 ⟨g, rfl, hR, hK2'⟩; have hK2 : KeptIn (· < V.heap.size) V V2 := (by first | exact hK2' | exact undrewK hK2'); have hcw := hR _ _ hwi.out; have hc2 := (HL.out V2 (hHK.out.trans (hK2.mono fun k hk => Nat.lt_of_lt_of_le hk hHK.out.size))).1; replace hR := Lib.hid hR))
        all_goals
          have hVK : KeptIn (· < W1.heap.size) W1 V2 := hHK.out.trans (hK2.mono fun k hk => Nat.lt_of_lt_of_le hk hHK.out.size)
          have hyl := (Array.getElem?_eq_some_iff.1 hHy.out).1
          have hy2 : V2.heap[W1.heap.size]? = some (.cells #[.int .i64 (x : Int), .slice none 0 0, .slice none 0 0] 32 (0, 0)) := (hK2.block _ hyl).trans hHy.out
          have c0 : V2.cell? ⟨W1.heap.size, 0, none⟩ = some (.int .i64 (x : Int)) := by unfold World.cell?; rw [hy2]; rfl
          have f0 : V2.frozen? ⟨W1.heap.size, 0, none⟩ = false := by simp [World.frozen?, hy2]
          have hy3 : Hid ((V2.setCell ⟨W1.heap.size, 0, none⟩ (.int .i64 ((i : Int) + 1))).heap[W1.heap.size]? = some (.cells #[.int .i64 ((i + 1 : Nat) : Int), .slice none 0 0, .slice none 0 0] 32 (0, 0))) := Lib.hid ((heap_setCell_same _ _ _ _ _ _ hy2).trans (by simp))
          replace hVK := Lib.hid hVK
          clear hK2 hK2' hcw hc2 hc0 hc1 hR hyl hy2
          go_wp2_with fail
          clear c0 f0
          go_roundw
          case rel => exact ⟨i + 2, i + 1, _, rfl, by first | rfl | exact congrArg (Value.int .i64) hw1 | exact congrArg (Value.int .i64) (by omega), by omega, by have := hp2.out; omega, by first | exact hVK.out.setCell (Nat.lt_irrefl _) _ | exact (hVK.out.drew).setCell (Nat.lt_irrefl _) _, hy3.out, (hkk1.out he.out).symm⟩
          case measure => first | exact ms_step hp2.out rfl | exact ms_step hp2.out hw1 | exact ms_step hp2.out (by omega)
      · have q1 : (wi == w0) = false := beq_eq_false_iff_ne.2 he
        replace he := Lib.hid he
        go_wp2_with fail
        go_region_law (first | (go_simp; refine (rWords' _).mono ?_; rintro e V2 ⟨g, rfl, hR, hK2'⟩; have hK2 : KeptIn (· < V.heap.size) V V2 := (by first | exact hK2' | exact undrewK hK2'); have hcw := hR _ _ hwi.out; have hc2 := (HL.out V2 (hHK.out.trans (hK2.mono fun k hk => Nat.lt_of_lt_of_le hk hHK.out.size))).1; replace hR := Lib.hid hR))
        all_goals
          have hVK : KeptIn (· < W1.heap.size) W1 V2 := hHK.out.trans (hK2.mono fun k hk => Nat.lt_of_lt_of_le hk hHK.out.size)
          have hyl := (Array.getElem?_eq_some_iff.1 hHy.out).1
          have hy2 : V2.heap[W1.heap.size]? = some (.cells #[.int .i64 (x : Int), .slice none 0 0, .slice none 0 0] 32 (0, 0)) := (hK2.block _ hyl).trans hHy.out
          replace hVK := Lib.hid hVK
          replace hy2 := Lib.hid hy2
          clear hK2 hK2' hcw hc2 hc0 hc1 hR hyl
          go_wp2_with fail
          go_roundw
          case rel => exact ⟨i + 2, x, _, rfl, by first | rfl | exact congrArg (Value.int .i64) hw1 | exact congrArg (Value.int .i64) (by omega), by omega, by have := hp2.out; omega, by first | exact hVK.out | exact hVK.out.drew, hy2.out, by rw [hkk2.out he.out]; exact hHx.out⟩
          case measure => first | exact ms_step hp2.out rfl | exact ms_step hp2.out hw1 | exact ms_step hp2.out (by omega)
    · obtain rfl : j = 16 := by omega
      obtain ⟨c0, c1, hx16, h013, hc0, hc1, hcase⟩ := cnt_of w0 hx
      have e0 : V.cell? ⟨W1.heap.size, 0, none⟩ = some (.int .i64 (x : Int)) := by unfold World.cell?; rw [hy]; rfl
      have e1 : V.drew.cell? ⟨W1.heap.size, 0, none⟩ = some (.int .i64 (x : Int)) := by
        have : V.drew.heap[W1.heap.size]? = some (.cells #[.int .i64 (x : Int), .slice none 0 0, .slice none 0 0] 32 (0, 0)) := hy
        unfold World.cell?; rw [this]; rfl
      have HE : Hid (∀ U, KeptIn (· < V.heap.size) V U → U.cell? ⟨W1.heap.size, 0, none⟩ = some (.int .i64 (x : Int)) ∧ U.heap[W1.heap.size]? = some (.cells #[.int .i64 (x : Int), .slice none 0 0, .slice none 0 0] 32 (0, 0))) := Lib.hid fun U hU => by
        have hyv : U.heap[W1.heap.size]? = some (.cells #[.int .i64 (x : Int), .slice none 0 0, .slice none 0 0] 32 (0, 0)) := (hU.block _ (Array.getElem?_eq_some_iff.1 hy).1).trans hy
        exact ⟨by unfold World.cell?; rw [hyv]; rfl, hyv⟩
      have e3 := (HE.out _ ((KeptIn.refl _ V).alloc (fun _ h => h) (.cells #[.int .i64 0, .int .i64 0] 90))).1
      have e4 := (HE.out _ ((KeptIn.refl _ V).drew.alloc (fun _ h => h) (.cells #[.int .i64 0, .int .i64 0] 90))).1
      have e5 := (HE.out _ ((KeptIn.refl _ V).alloc (fun _ h => h) (.cells #[.int .i64 0, .int .i64 0] 90)).drew).1
      have x0 : (0 : Int) ≤ (x : Int) := by omega
      have x1 : (x : Int) < 16 := by omega
      have x2 : x < 16 := hx16
      have hHK := Lib.hid hK
      replace hcase := Lib.hid hcase
      replace h013 := Lib.hid h013
      replace hc0 := Lib.hid hc0
      replace hc1 := Lib.hid hc1
      clear hx hj1 hj hp hK hy hx16
      go_wp2_with fail
      go_region_law (first | (go_simp; refine (rCounts' _).mono ?_; rintro e V2 ⟨g, rfl, hR, hK2'⟩; have hK2 : KeptIn (· < V.heap.size) V V2 := (by first | exact hK2' | exact undrewK hK2' | exact ((KeptIn.refl _ V).alloc (fun _ h => h) _).trans (hK2'.mono fun k hk => by simp; omega) | exact ((KeptIn.refl _ V).alloc (fun _ h => h) _).trans ((undrewK hK2').mono fun k hk => by simp; omega)); (try have hzb := (hK2'.block V.heap.size (by simp)).trans (heap_alloc_new V (.cells #[.int .i64 0, .int .i64 0] 90))); (try have z0 := cell2_0 hzb); (try have z1 := cell2_1 hzb); (try have zf := frz2 hzb); (try have zs := shp2 hzb); (try replace hzb := Lib.hid hzb); have hcw := hR.2 _ _ hc0.out; have hcx := hR.2 _ _ hc1.out; have e2 := (HE.out V2 hK2).1; have hcw' := cell_old ((KeptIn.refl _ V2).alloc (fun _ h => h) (.cells #[.int .i64 0, .int .i64 0] 90)) hcw; have hcx' := cell_old ((KeptIn.refl _ V2).alloc (fun _ h => h) (.cells #[.int .i64 0, .int .i64 0] 90)) hcx; have e2' := cell_old ((KeptIn.refl _ V2).alloc (fun _ h => h) (.cells #[.int .i64 0, .int .i64 0] 90)) e2; replace hR := Lib.hid hR))
      all_goals
        first
          | (have HZ := z_store (c0 := c0) (c1 := c1) hK2 hzb.out
             generalize (V2.setCell ⟨V.heap.size, 0, none⟩ (.int .i64 (c0 : Int))).setCell ⟨V.heap.size, 1, none⟩ (.int .i64 (c1 : Int)) = V5 at HZ ⊢
             obtain ⟨z, hz⟩ : ∃ z, V.heap.size = z := ⟨_, rfl⟩
             rw [hz] at HZ ⊢
             clear hz)
          | (have HZ := z_alloc (c0 := c0) (c1 := c1) hK2
             generalize V2.alloc (.cells #[.int .i64 (c0 : Int), .int .i64 (c1 : Int)] 90) = V5 at HZ ⊢
             generalize V2.heap.size = z at HZ ⊢)
        have HZ' := Lib.hid HZ
        clear HZ
        (try clear z0); (try clear z1); (try clear zf); (try clear zs); (try clear hzb)
        clear hcw hcx hcw' hcx' e2 e2' e0 e1 e3 e4 e5 hR x0 x1 x2 hc0 hc1 hK2 hK2'
        obtain ⟨hK5, hz5, hzl⟩ := HZ'.out
        have hyV := lt_of_heap (HE.out V (KeptIn.refl _ _)).2
        have hyy := (HE.out V5 hK5).2
        have hK15 : KeptIn (· < W1.heap.size) W1 V5 := hHK.out.trans (hK5.mono fun k hk => Nat.lt_of_lt_of_le hk hHK.out.size)
        have hwl := lt_of_heap HB1.out
        have HBR : Hid (∀ U, KeptIn (fun k => k < V5.heap.size ∧ k ≠ W1.heap.size) V5 U → U.heap[w.heap.size]? = some (.cells #[.int .i64 0, .slice none 0 0, .slice none 0 0] 32 (0, 0)) ∧ KeptIn (· < w.heap.size) w U) := Lib.hid fun U hU => by
          have hs5 := hK15.size
          refine ⟨?_, HK1.out.trans ((hK15.mono fun k hk => Nat.lt_trans hk hwl).trans (hU.mono fun k hk => ⟨by omega, by omega⟩))⟩
          rw [hU.block _ ⟨by omega, by omega⟩, hK15.block _ hwl]
          exact HB1.out
        have hzs := lt_of_heap hz5
        have HZC : Hid (∀ U, KeptIn (fun k => k < V5.heap.size ∧ k ≠ W1.heap.size) V5 U → U.cell? ⟨z, 0, none⟩ = some (.int .i64 (c0 : Int)) ∧ U.cell? ⟨z, 1, none⟩ = some (.int .i64 (c1 : Int)) ∧ ∀ j x, rest[j]? = some x → U.cell? ⟨gl, j + 1, none⟩ = some (.string ⟨x.toArray⟩)) := Lib.hid fun U hU => by
          have hs5 := hK15.size
          have h1 := (hU.block z ⟨hzs, by omega⟩).trans hz5
          refine ⟨cell2_0 h1, cell2_1 h1, fun j x hx => ?_⟩
          have h2 := (HL.out W1 (KeptIn.refl _ _)).2 j x hx
          exact cell_old (hK15.trans (hU.mono fun k hk => ⟨by omega, by omega⟩)) h2
        have cy0 := cell3_0 hyy
        have cz0 := cell2_0 hz5
        have cz1 := cell2_1 hz5
        have hyl5 := lt_of_heap hyy
        replace hyy := Lib.hid hyy
        replace hyl5 := Lib.hid hyl5
        obtain ⟨g1, g2⟩ : wrap64 (1 + (c0 : Int)) = 1 + (c0 : Int) ∧ wrap64 (1 + (c0 : Int) + (c1 : Int)) = 1 + (c0 : Int) + (c1 : Int) := by have := h013.out; unfold wrap64; omega
        have hRf : Hid (KeptIn (fun k => k < V5.heap.size ∧ k ≠ W1.heap.size) V5 V5) := Lib.hid (KeptIn.refl _ _)
        clear hK5 hz5 hzl hyV hK15 hwl hzs HZ' HE
        rcases hcase.out with ⟨hx0, hkn⟩ | ⟨k, hk15, hxk, hks, hck, hct⟩
        · have q1 : ((x : Int) == 0) = true := beq_iff_eq.2 (by omega)
          have q2 : (x == 0) = true := beq_iff_eq.2 hx0
          have hpn : Hid (po = none) := Lib.hid (by rw [← hpo.out]; exact parse_nokind hL.out hkn)
          clear hx0 hkn
          obtain ⟨hbr, hkw⟩ := HBR.out V5 (hRf.out)
          have r0 := cell3_0 hbr
          have r1 := cell3_1 hbr
          have r2 := cell3_2 hbr
          have rs := shp3 hbr
          have rf := frz3 hbr
          have hbox := Lib.hid (stO_box hbr 0 (.slice none 0 0) (.slice none 0 0))
          have hkw2 := Lib.hid (hkw.stO (Nat.lt_irrefl _) 0 (.slice none 0 0) (.slice none 0 0))
          clear hbr hkw
          go_wp2_with fail
          exact bodyPost_ret (results_ord2 rfl _ _ w.heap.size 0 _ _ _ rfl rfl hbox.out) rfl ⟨by rw [hpn.out]; exact rfl, hkw2.out⟩
        · have q1 : ((x : Int) == 0) = false := beq_eq_false_iff_ne.2 (by omega)
          have q2 : (x == 0) = false := beq_eq_false_iff_ne.2 (by omega)
          by_cases hln : nL = 1 + c0 + c1
          · have q3 : ((nL : Int) == 1 + (c0 : Int) + (c1 : Int)) = true := beq_iff_eq.2 (by omega)
            have q4 : ((nL : Int) != 1 + (c0 : Int) + (c1 : Int)) = false := by simp [hln]
            replace hks := Lib.hid hks
            replace hck := Lib.hid hck
            replace hct := Lib.hid hct
            replace hxk := Lib.hid hxk
            replace hln := Lib.hid hln
            go_wp2_with fail
            clear cy0 cz0 cz1 q1 q2 q3 q4 g1 g2
            go_loopw [8] (fun i wr => ∃ (j : Nat) (ns : List Int) (ts : List (List UInt8)) (v1 v2 : Value) (V6 : World), V6 = wr ∧ i = .int .i64 ((j + 1 : Nat) : Int) ∧ Hid (j + 1 ≤ nL ∧ PI rest c0 j ns ts ∧ KeptIn (fun k => k < V5.heap.size ∧ k ≠ W1.heap.size) V5 V6 ∧ V6.heap[W1.heap.size]? = some (.cells #[.int .i64 (x : Int), v1, v2] 32 (0, 0)) ∧ V6.ownsRow V5.heap.size 3 1 v1 ns.length (numC ns) ∧ V6.ownsRow V5.heap.size 9 1 v2 ts.length (txtC ts))) (fun i _ => nL - (RowKit.intOf i).toNat)
            case atStart => exact ⟨0, [], [], _, _, _, rfl, rfl, hnl0.out.1, PI.start _ _, hRf.out, hyy.out, ⟨rfl, .inl ⟨rfl, rfl⟩⟩, ⟨rfl, .inl ⟨rfl, rfl⟩⟩⟩
            case round =>
              obtain ⟨j, ns, ts, v1, v2, V6, rfl, rfl, H⟩ := hrel
              obtain ⟨hj, hI, hK, hy, ho1, ho2⟩ := H.out
              clear H
              obtain ⟨dz0, dz1, hcr⟩ := HZC.out V6 hK
              have hrl : rest.length + 1 = nL := hnl0.out.2.2
              have hnb := hnl0.out.2.1
              by_cases hp : j + 1 < nL
              · obtain ⟨t0, ht0⟩ : ∃ t, rest[j]? = some t := ⟨_, List.getElem?_eq_getElem (by omega)⟩
                have hct0 := hcr j t0 ht0
                have htl : t0.length ≤ 100000 := by
                  have := wdk_mem (wds l).length l t0 (by rw [wdk_all _ _ (by omega), hL.out]; exact List.mem_cons_of_mem _ (List.mem_of_getElem? ht0))
                  omega
                have d1 : decide (((j + 1 : Nat) : Int) < (nL : Int)) = true := decide_eq_true (by omega)
                have d2 : ((j + 1 : Nat) : Int) < (nL : Int) := by omega
                have d3 : (0 : Int) ≤ ((j + 1 : Nat) : Int) := by omega
                have d1' : decide ((j : Int) + 1 < (nL : Int)) = true := decide_eq_true (by omega)
                have d2' : (j : Int) + 1 < (nL : Int) := by omega
                have d3' : (0 : Int) ≤ (j : Int) + 1 := by omega
                have d4' : j + 1 < nL := hp
                have hw1 := wrap_succ (j + 1) (by omega)
                clear hnb
                by_cases hj0 : j < c0
                · have s1 : decide (((j + 1 : Nat) : Int) ≤ (c0 : Int)) = true := decide_eq_true (by omega)
                  have s2 : decide ((j : Int) + 1 ≤ (c0 : Int)) = true := decide_eq_true (by omega)
                  have C0 := rNumber t0 htl V6
                  cases hn : numW t0 with
                  | none =>
                    rw [hn] at C0
                    have C : Hid (Calls Tryd.prog 35 #[.string ⟨t0.toArray⟩] V6 fun e w' => e = .returned (.tuple #[.int .i64 0, .bool false]) ∧ KeptIn (· < V6.heap.size) V6 w') := Lib.hid C0
                    have hpn : Hid (po = none) := Lib.hid (by rw [← hpo.out]; exact parse_badN hL.out hks.out ht0 (by rw [← hck.out]; exact hj0) hn)
                    clear C0 hn hj0 htl ht0
                    go_wp2_with fail
                    refine C.out.mono ?_
                    rintro e V7 ⟨rfl, hK7⟩
                    have HK7 := Lib.hid (hK.trans (hK7.mono fun k hk => Nat.lt_of_lt_of_le hk.1 hK.size))
                    clear hK7 C hK hI hj hy ho1 ho2 hp hcr hrl
                    obtain ⟨hbr, hkw⟩ := HBR.out V7 (HK7.out)
                    have r0 := cell3_0 hbr
                    have r1 := cell3_1 hbr
                    have r2 := cell3_2 hbr
                    have rs := shp3 hbr
                    have rf := frz3 hbr
                    have hbox := Lib.hid (stO_box hbr 0 (.slice none 0 0) (.slice none 0 0))
                    have hkw2 := Lib.hid (hkw.stO (Nat.lt_irrefl _) 0 (.slice none 0 0) (.slice none 0 0))
                    clear hbr hkw
                    go_wp2_with fail
                    exact bodyPost_ret (results_ord2 rfl _ _ w.heap.size 0 _ _ _ rfl rfl hbox.out) rfl ⟨by rw [hpn.out]; exact rfl, hkw2.out⟩
                  | some n =>
                    rw [hn] at C0
                    have C : Hid (Calls Tryd.prog 35 #[.string ⟨t0.toArray⟩] V6 fun e w' => e = .returned (.tuple #[.int .i64 n, .bool true]) ∧ KeptIn (· < V6.heap.size) V6 w') := Lib.hid C0
                    have hI2 := Lib.hid (hI.num ht0 hj0 hn)
                    clear C0 hn hj0 htl
                    go_wp2_with fail
                    refine C.out.mono ?_
                    rintro e V7 ⟨rfl, hK7⟩
                    have HK7 := Lib.hid (hK.trans (hK7.mono fun k hk => Nat.lt_of_lt_of_le hk.1 hK.size))
                    have hy7 := (hK7.block _ (lt_of_heap hy)).trans hy
                    have o1 := ownsRow_kept ho1 hK7
                    have o2 := ownsRow_kept ho2 hK7
                    obtain ⟨a, cp, rfl⟩ := own_form o1
                    obtain ⟨m, hm⟩ : ∃ m, ns.length = m := ⟨_, rfl⟩
                    rw [hm] at o1 hy7 hy ho1
                    have hmb : m ≤ 20000 := by rw [← hm]; have := hI.lens (by omega); have := hnl0.out.2.1; omega
                    have cmine := cell3_1 hy7
                    have HO1 := Lib.hid o1
                    have HO2 := Lib.hid o2
                    have HY7 := Lib.hid hy7
                    have hm' := Lib.hid hm
                    obtain ⟨ii, hii, hz0, hz1, hz2⟩ := info_parts infoInt
                    have hb1 : Hid (m + 1 ≤ maxLen) := Lib.hid (by unfold maxLen; omega)
                    have hb2 : Hid ((m + 1) * 8 ≤ 140737488355328) := Lib.hid (by omega)
                    have hBW : Hid (V5.heap.size ≤ V7.heap.size) := Lib.hid HK7.out.size
                    have hjl : Hid (j + 1 + 1 ≤ nL ∧ j + 1 < nL) := Lib.hid ⟨by omega, hp⟩
                    clear o1 o2 hy7 hm hmb hj hI hK hy ho1 ho2 hK7 hp hct0 dz0 dz1 hcr ht0 hrl C
                    go_wp2_with (first
                      | (at_builtin; refine wpList_append_own _ rfl _ _ 27 rfl V5.heap.size 3 ii _ 1 8 Tryd.underlying27 hii hz0 hz1 hz2 rfl (by decide) _ _ _ rfl (HO1.out.alloc _) ⟨V7.heap.size, 0, none⟩ 1 1 [.int .i64 n] rfl rfl (World.news_of_block (cs := #[.int .i64 n]) (t := 3) (fr := (0, 0)) (heap_alloc_new V7 _)) (by simp [Value.oneCell']) hb1.out hb2.out (by rw [World.size_alloc]; exact Nat.le_succ_of_le hBW.out) ?_))
                    intro v' w8 hown hgrow _
                    obtain ⟨a', cp', rfl⟩ := own_form hown
                    have hy8 := y_grown HY7.out HO1.out hyl5.out hgrow
                    have hk8 := k_grown HK7.out HO1.out hgrow
                    have hoo := ownsRow_other HO2.out HO1.out (by decide) hgrow
                    have c8 := cell3_1 hy8
                    have f8 := frz3 hy8
                    have hR9 : Hid (KeptIn (fun k => k < V5.heap.size ∧ k ≠ W1.heap.size) V5 (w8.setCell ⟨W1.heap.size, 1, none⟩ (.slice a' (m + 1) cp')) ∧ (w8.setCell ⟨W1.heap.size, 1, none⟩ (.slice a' (m + 1) cp')).heap[W1.heap.size]? = some (.cells #[.int .i64 (x : Int), (.slice a' (m + 1) cp'), v2] 32 (0, 0)) ∧ (w8.setCell ⟨W1.heap.size, 1, none⟩ (.slice a' (m + 1) cp')).ownsRow V5.heap.size 3 1 (.slice a' (m + 1) cp') (ns ++ [n]).length (numC (ns ++ [n])) ∧ (w8.setCell ⟨W1.heap.size, 1, none⟩ (.slice a' (m + 1) cp')).ownsRow V5.heap.size 9 1 v2 ts.length (txtC ts)) := Lib.hid (by
                      refine ⟨hk8.setCell (fun h => h.2 rfl) _, (heap_setCell_same _ _ _ _ _ _ hy8).trans (by simp), ?_, ownsRow_cell hoo hyl5.out _⟩
                      have := ownsRow_cell hown hyl5.out 1 (x := .slice a' (m + 1) cp')
                      rw [List.length_append, hm'.out, show numC (ns ++ [n]) = numC ns ++ [.int .i64 n] by simp [numC]]
                      exact this)
                    clear hown hgrow hy8 hk8 hoo HY7 HK7 HO1 HO2 hBW cmine
                    go_wp2_with fail
                    clear c8 f8
                    go_roundw
                    case rel => exact ⟨j + 1, ns ++ [n], ts, _, _, _, rfl, by first | rfl | exact congrArg (Value.int .i64) hw1 | exact congrArg (Value.int .i64) (by omega), hjl.out.1, hI2.out, hR9.out.1, hR9.out.2.1, hR9.out.2.2.1, hR9.out.2.2.2⟩
                    case measure => first | exact ms_step hjl.out.2 rfl | exact ms_step hjl.out.2 hw1 | exact ms_step hjl.out.2 (by omega)
                · have s1 : decide (((j + 1 : Nat) : Int) ≤ (c0 : Int)) = false := decide_eq_false (by omega)
                  have s2 : decide ((j : Int) + 1 ≤ (c0 : Int)) = false := decide_eq_false (by omega)
                  have C0 := rBytes t0 htl V6
                  cases hn : bytS t0 with
                  | none =>
                    rw [hn] at C0
                    have C : Hid (Calls Tryd.prog 36 #[.string ⟨t0.toArray⟩] V6 fun e w' => e = .returned (.tuple #[.string ⟨([] : List UInt8).toArray⟩, .bool false]) ∧ KeptIn (· < V6.heap.size) V6 w') := Lib.hid C0
                    have hpn : Hid (po = none) := Lib.hid (by rw [← hpo.out]; exact parse_badT hL.out hks.out ht0 (by rw [← hck.out]; omega) (fun t h => by rw [hn] at h; cases h))
                    clear C0 hn hj0 htl ht0
                    go_wp2_with fail
                    refine C.out.mono ?_
                    rintro e V7 ⟨rfl, hK7⟩
                    have HK7 := Lib.hid (hK.trans (hK7.mono fun k hk => Nat.lt_of_lt_of_le hk.1 hK.size))
                    clear hK7 C hK hI hj hy ho1 ho2 hp hcr hrl
                    obtain ⟨hbr, hkw⟩ := HBR.out V7 (HK7.out)
                    have r0 := cell3_0 hbr
                    have r1 := cell3_1 hbr
                    have r2 := cell3_2 hbr
                    have rs := shp3 hbr
                    have rf := frz3 hbr
                    have hbox := Lib.hid (stO_box hbr 0 (.slice none 0 0) (.slice none 0 0))
                    have hkw2 := Lib.hid (hkw.stO (Nat.lt_irrefl _) 0 (.slice none 0 0) (.slice none 0 0))
                    clear hbr hkw
                    go_wp2_with fail
                    exact bodyPost_ret (results_ord2 rfl _ _ w.heap.size 0 _ _ _ rfl rfl hbox.out) rfl ⟨by rw [hpn.out]; exact rfl, hkw2.out⟩
                  | some t =>
                    rw [hn] at C0
                    have C : Hid (Calls Tryd.prog 36 #[.string ⟨t0.toArray⟩] V6 fun e w' => e = .returned (.tuple #[.string ⟨t.toArray⟩, .bool true]) ∧ KeptIn (· < V6.heap.size) V6 w') := Lib.hid C0
                    by_cases h5 : t.length ≤ 512
                    · have u5 : decide ((512 : Int) < (t.length : Int)) = false := decide_eq_false (by omega)
                      have u6 : decide (512 < t.length) = false := decide_eq_false (by omega)
                      have hI2 := Lib.hid (hI.txt ht0 (by omega) hn h5)
                      clear C0 hn hj0 htl h5
                      go_wp2_with fail
                      refine C.out.mono ?_
                      rintro e V7 ⟨rfl, hK7⟩
                      have HK7 := Lib.hid (hK.trans (hK7.mono fun k hk => Nat.lt_of_lt_of_le hk.1 hK.size))
                      have hy7 := (hK7.block _ (lt_of_heap hy)).trans hy
                      have o1 := ownsRow_kept ho1 hK7
                      have o2 := ownsRow_kept ho2 hK7
                      obtain ⟨a, cp, rfl⟩ := own_form o2
                      obtain ⟨m, hm⟩ : ∃ m, ts.length = m := ⟨_, rfl⟩
                      rw [hm] at o2 hy7 hy ho2
                      have hmb : m ≤ 20000 := by rw [← hm]; have := hI.lens (by omega); have := hnl0.out.2.1; omega
                      have cmine := cell3_2 hy7
                      have HO1 := Lib.hid o1
                      have HO2 := Lib.hid o2
                      have HY7 := Lib.hid hy7
                      have hm' := Lib.hid hm
                      obtain ⟨ii, hii, hz0, hz1, hz2⟩ := info_parts infoStr
                      have hb1 : Hid (m + 1 ≤ maxLen) := Lib.hid (by unfold maxLen; omega)
                      have hb2 : Hid ((m + 1) * 16 ≤ 140737488355328) := Lib.hid (by omega)
                      have hBW : Hid (V5.heap.size ≤ V7.heap.size) := Lib.hid HK7.out.size
                      have hjl : Hid (j + 1 + 1 ≤ nL ∧ j + 1 < nL) := Lib.hid ⟨by omega, hp⟩
                      clear o1 o2 hy7 hm hmb hj hI hK hy ho1 ho2 hK7 hp hct0 dz0 dz1 hcr ht0 hrl C
                      go_wp2_with (first
                        | (at_builtin; refine wpList_append_own _ rfl _ _ 29 rfl V5.heap.size 9 ii _ 1 16 Tryd.underlying29 hii hz0 hz1 hz2 rfl (by decide) _ _ _ rfl (HO2.out.alloc _) ⟨V7.heap.size, 0, none⟩ 1 1 [.string ⟨t.toArray⟩] rfl rfl (World.news_of_block (cs := #[.string ⟨t.toArray⟩]) (t := 9) (fr := (0, 0)) (heap_alloc_new V7 _)) (by simp [Value.oneCell']) hb1.out hb2.out (by rw [World.size_alloc]; exact Nat.le_succ_of_le hBW.out) ?_))
                      intro v' w8 hown hgrow _
                      obtain ⟨a', cp', rfl⟩ := own_form hown
                      have hy8 := y_grown HY7.out HO2.out hyl5.out hgrow
                      have hk8 := k_grown HK7.out HO2.out hgrow
                      have hoo := ownsRow_other HO1.out HO2.out (by decide) hgrow
                      have c8 := cell3_2 hy8
                      have f8 := frz3 hy8
                      have hR9 : Hid (KeptIn (fun k => k < V5.heap.size ∧ k ≠ W1.heap.size) V5 (w8.setCell ⟨W1.heap.size, 2, none⟩ (.slice a' (m + 1) cp')) ∧ (w8.setCell ⟨W1.heap.size, 2, none⟩ (.slice a' (m + 1) cp')).heap[W1.heap.size]? = some (.cells #[.int .i64 (x : Int), v1, (.slice a' (m + 1) cp')] 32 (0, 0)) ∧ (w8.setCell ⟨W1.heap.size, 2, none⟩ (.slice a' (m + 1) cp')).ownsRow V5.heap.size 9 1 (.slice a' (m + 1) cp') (ts ++ [t]).length (txtC (ts ++ [t])) ∧ (w8.setCell ⟨W1.heap.size, 2, none⟩ (.slice a' (m + 1) cp')).ownsRow V5.heap.size 3 1 v1 ns.length (numC ns)) := Lib.hid (by
                        refine ⟨hk8.setCell (fun h => h.2 rfl) _, (heap_setCell_same _ _ _ _ _ _ hy8).trans (by simp), ?_, ownsRow_cell hoo hyl5.out _⟩
                        have := ownsRow_cell hown hyl5.out 2 (x := .slice a' (m + 1) cp')
                        rw [List.length_append, hm'.out, show txtC (ts ++ [t]) = txtC ts ++ [.string ⟨t.toArray⟩] by simp [txtC]]
                        exact this)
                      clear hown hgrow hy8 hk8 hoo HY7 HK7 HO1 HO2 hBW cmine
                      go_wp2_with fail
                      clear c8 f8
                      go_roundw
                      case rel => exact ⟨j + 1, ns, ts ++ [t], _, _, _, rfl, by first | rfl | exact congrArg (Value.int .i64) hw1 | exact congrArg (Value.int .i64) (by omega), hjl.out.1, hI2.out, hR9.out.1, hR9.out.2.1, hR9.out.2.2.2, hR9.out.2.2.1⟩
                      case measure => first | exact ms_step hjl.out.2 rfl | exact ms_step hjl.out.2 hw1 | exact ms_step hjl.out.2 (by omega)
                    · have u5 : decide ((512 : Int) < (t.length : Int)) = true := decide_eq_true (by omega)
                      have u6 : decide (512 < t.length) = true := decide_eq_true (by omega)
                      have hpn : Hid (po = none) := Lib.hid (by rw [← hpo.out]; exact parse_badT hL.out hks.out ht0 (by rw [← hck.out]; omega) (fun t' h => by rw [hn] at h; simp only [Option.some.injEq] at h; subst h; omega))
                      clear C0 hn hj0 htl ht0 h5
                      go_wp2_with fail
                      refine C.out.mono ?_
                      rintro e V7 ⟨rfl, hK7⟩
                      have HK7 := Lib.hid (hK.trans (hK7.mono fun k hk => Nat.lt_of_lt_of_le hk.1 hK.size))
                      clear hK7 C hK hI hj hy ho1 ho2 hp hcr hrl
                      obtain ⟨hbr, hkw⟩ := HBR.out V7 (HK7.out)
                      have r0 := cell3_0 hbr
                      have r1 := cell3_1 hbr
                      have r2 := cell3_2 hbr
                      have rs := shp3 hbr
                      have rf := frz3 hbr
                      have hbox := Lib.hid (stO_box hbr 0 (.slice none 0 0) (.slice none 0 0))
                      have hkw2 := Lib.hid (hkw.stO (Nat.lt_irrefl _) 0 (.slice none 0 0) (.slice none 0 0))
                      clear hbr hkw
                      go_wp2_with fail
                      exact bodyPost_ret (results_ord2 rfl _ _ w.heap.size 0 _ _ _ rfl rfl hbox.out) rfl ⟨by rw [hpn.out]; exact rfl, hkw2.out⟩
              · have hje : j + 1 = nL := by omega
                have d1 : decide (((j + 1 : Nat) : Int) < (nL : Int)) = false := decide_eq_false (by omega)
                have d1' : decide ((j : Int) + 1 < (nL : Int)) = false := decide_eq_false (by omega)
                have hpn : Hid (po = some ⟨k, ns, ts⟩) := Lib.hid (by
                  rw [← hpo.out]
                  exact parse_done hL.out hks.out (by have := hln.out; have := hck.out; have := hct.out; omega) (j := j) (by omega) (by rw [← hck.out]; exact hI))
                obtain ⟨hbr, hkw⟩ := HBR.out V6 hK
                have b0 := cell3_0 hy
                have b1 := cell3_1 hy
                have b2 := cell3_2 hy
                have r0 := cell3_0 hbr
                have r1 := cell3_1 hbr
                have r2 := cell3_2 hbr
                have rs := shp3 hbr
                have rf := frz3 hbr
                have hbox := Lib.hid (stO_box hbr (x : Int) v1 v2)
                have hkw2 := Lib.hid (hkw.stO (Nat.lt_irrefl _) (x : Int) v1 v2)
                obtain ⟨a, cp, rfl⟩ := own_form ho1
                obtain ⟨a2, cp2, rfl⟩ := own_form ho2
                have hwB : w.heap.size < V5.heap.size := Nat.lt_trans (lt_of_heap HB1.out) hyl5.out
                have hrd1 := Lib.hid (own_rdN (ownsRow_cell (ownsRow_cell (ownsRow_cell ho1 hwB 0 (x := .int .i64 (x : Int))) hwB 1 (x := .slice a ns.length cp)) hwB 2 (x := .slice a2 ts.length cp2)))
                have hrd2 := Lib.hid (own_rdT (ownsRow_cell (ownsRow_cell (ownsRow_cell ho2 hwB 0 (x := .int .i64 (x : Int))) hwB 1 (x := .slice a ns.length cp)) hwB 2 (x := .slice a2 ts.length cp2)))
                clear hbr hkw hy ho1 ho2 hK hI hcr hp hje hrl hnb hj hwB dz0 dz1
                go_wp2_with fail
                exact bodyPost_ret (results_ord2 rfl _ _ w.heap.size (x : Int) _ _ _ rfl rfl hbox.out) rfl ⟨by rw [hpn.out]; exact ⟨a, cp, a2, cp2, by rw [hxk.out]; rfl, hrd1.out, hrd2.out⟩, hkw2.out⟩
          · have q3 : ((nL : Int) == 1 + (c0 : Int) + (c1 : Int)) = false := beq_eq_false_iff_ne.2 (by omega)
            have q4 : ((nL : Int) != 1 + (c0 : Int) + (c1 : Int)) = true := bne_iff_ne.2 (by omega)
            have hpn : Hid (po = none) := Lib.hid (by rw [← hpo.out]; exact parse_nolen hL.out hks (by rw [← hck, ← hct]; have := hnl0.out.2.2; omega))
            clear hks hck hct hxk hln
            obtain ⟨hbr, hkw⟩ := HBR.out V5 (hRf.out)
            have r0 := cell3_0 hbr
            have r1 := cell3_1 hbr
            have r2 := cell3_2 hbr
            have rs := shp3 hbr
            have rf := frz3 hbr
            have hbox := Lib.hid (stO_box hbr 0 (.slice none 0 0) (.slice none 0 0))
            have hkw2 := Lib.hid (hkw.stO (Nat.lt_irrefl _) 0 (.slice none 0 0) (.slice none 0 0))
            clear hbr hkw
            go_wp2_with fail
            exact bodyPost_ret (results_ord2 rfl _ _ w.heap.size 0 _ _ _ rfl rfl hbox.out) rfl ⟨by rw [hpn.out]; exact rfl, hkw2.out⟩
end Go.Proofs.YtlldmebjgidbaaaDoor
