/- Order: the document's form of an order. -/
import Derived.Test.YtlldmebjgidbaaaDoorMd20
import Derived.Test.YtlldmebjgidbaaaDoorQk13
import Derived.Deep.Slices
import Derived.Deep.RegionLaw
set_option linter.unusedVariables false
set_option linter.unusedSimpArgs false
namespace Go.Proofs.YtlldmebjgidbaaaDoor
open Go.RowKit

def wordsC : List (List UInt8) := [[], wordL 0, wordL 1, wordL 2, wordL 3, wordL 4, wordL 5, wordL 6, wordL 7, wordL 8, wordL 9, wordL 10, wordL 11, wordL 12, wordL 13, wordL 14]
theorem wordsC_at : ∀ i, i < 15 → wordsC[i + 1]? = some (wordL i)
  | 0, _ | 1, _ | 2, _ | 3, _ | 4, _ | 5, _ | 6, _ | 7, _ | 8, _ | 9, _ | 10, _ | 11, _ | 12, _ | 13, _ | 14, _ => rfl
  | n + 15, h => absurd h (by omega)
theorem wordL_inj : ∀ i, i < 15 → ∀ j, j < 15 → wordL i = wordL j → i = j := by decide

theorem rWords (w : World) : Calls Tryd.prog 10 #[] w fun e w' => e = .returned (.slice (some ⟨w.heap.size, 0, none⟩) 16 16) ∧ RdS w.heap.size 0 wordsC w' ∧ KeptIn (· < w.heap.size) w w' := by
  go_enter Tryd.func10, Tryd.ntmps10
  go_wp2_with fail
  go_ret
  refine ⟨rfl, ?_, (KeptIn.refl _ _).alloc (fun _ h => h) _⟩
  intro j t ht
  unfold World.cell?
  rw [heap_alloc_new]
  simp only [Nat.zero_add]
  have : (txtC wordsC).toArray[j]? = some (.string ⟨t.toArray⟩) := by simp [txtC, ht]
  rw [if_neg (by simp)]
  exact this

/-- The document's order as a value. -/
def oS (k : Int) (v1 v2 : Value) : Value := .agg #[.int .i64 k, v1, v2]
def BoxO (y : Nat) (k : Int) (v1 v2 : Value) (w : World) : Prop := w.heap[y]? = some (.cells #[.int .i64 k, v1, v2] 32 (0, 0))
theorem results_ord {fn : Func} {p : Tmp} (h : fn.results = #[.cell p 32]) (tmps : Array Value) (w : World) (y : Nat) (k : Int) (v1 v2 : Value)
    (hp : tmps.getD p undef = .pointer (some ⟨y, 0, none⟩)) (hb : BoxO y k v1 v2 w) : (results fn tmps).run Tryd.prog w = .ok (oS k v1 v2) w := by
  have hr := run_loadVar_row (P := Tryd.prog) w y 32 32 _ _ _ hb Tryd.underlying32 rfl (by kernel_rfl)
  have hp' : tmps[p]?.getD undef = .pointer (some ⟨y, 0, none⟩) := by simpa using hp
  simp [results, h, hp', asAddr, hr, oS]

theorem undrewK {X : Nat → Prop} {a b : World} (h : KeptIn X a.drew b) : KeptIn X a b := ⟨h.os, h.tape, h.output, h.size, h.block⟩
theorem rowN_down {v : Value} {ns : List Int} {B B' : Nat} {w : World} (h : RowN v ns B w) (hB : B' ≤ B) : RowN v ns B' w := by
  rcases h with h | ⟨b, h1, h2, h3⟩
  · exact .inl h
  · exact .inr ⟨b, by omega, h2, h3⟩
theorem rowT_down {v : Value} {ts : List (List UInt8)} {B B' : Nat} {w : World} (h : RowT v ts B w) (hB : B' ≤ B) : RowT v ts B' w := by
  rcases h with h | ⟨b, h1, h2, h3⟩
  · exact .inl h
  · exact .inr ⟨b, by omega, h2, h3⟩
def stO (V : World) (y : Nat) (k : Int) (v1 v2 : Value) : World := ((V.setCell ⟨y, 0, none⟩ (.int .i64 k)).setCell ⟨y, 1, none⟩ v1).setCell ⟨y, 2, none⟩ v2
theorem stO_box {V : World} {y : Nat} {a b c : Value} (hb : V.heap[y]? = some (.cells #[a, b, c] 32 (0, 0))) (k : Int) (v1 v2 : Value) : BoxO y k v1 v2 (stO V y k v1 v2) := by
  have h1 : (V.setCell ⟨y, 0, none⟩ (.int .i64 k)).heap[y]? = _ := heap_setCell_same _ _ _ _ _ _ hb
  have h2 : ((V.setCell ⟨y, 0, none⟩ (.int .i64 k)).setCell ⟨y, 1, none⟩ v1).heap[y]? = _ := heap_setCell_same _ _ _ _ _ _ h1
  have h3 : (stO V y k v1 v2).heap[y]? = _ := heap_setCell_same _ _ _ _ _ _ h2
  exact h3.trans rfl
theorem KeptIn.stO {X : Nat → Prop} {a b : World} (h : KeptIn X a b) {y : Nat} (hy : ¬ X y) (k : Int) (v1 v2 : Value) : KeptIn X a (stO b y k v1 v2) :=
  ((h.setCell (p := ⟨y, 0, none⟩) hy _).setCell (p := ⟨y, 1, none⟩) hy _).setCell (p := ⟨y, 2, none⟩) hy _
theorem rowN_stO {v : Value} {ns : List Int} {B y : Nat} {V : World} {a b c : Value} (h : RowN v ns B V) (hb : V.heap[y]? = some (.cells #[a, b, c] 32 (0, 0))) (k : Int) (v1 v2 : Value) : RowN v ns B (stO V y k v1 v2) := by
  rcases h with h | ⟨g, h1, h2, h3⟩
  · exact .inl h
  · refine .inr ⟨g, h1, h2, ?_⟩
    have hne : g ≠ y := by
      rintro rfl
      rw [h3] at hb
      simp at hb
    have := (KeptIn.refl (· = g) V).stO (y := y) (fun e => hne e.symm) k v1 v2
    rw [this.block g rfl]
    exact h3
theorem rowT_stO {v : Value} {ts : List (List UInt8)} {B y : Nat} {V : World} {a b c : Value} (h : RowT v ts B V) (hb : V.heap[y]? = some (.cells #[a, b, c] 32 (0, 0))) (k : Int) (v1 v2 : Value) : RowT v ts B (stO V y k v1 v2) := by
  rcases h with h | ⟨g, h1, h2, h3⟩
  · exact .inl h
  · refine .inr ⟨g, h1, h2, ?_⟩
    have hne : g ≠ y := by
      rintro rfl
      rw [h3] at hb
      simp at hb
    have := (KeptIn.refl (· = g) V).stO (y := y) (fun e => hne e.symm) k v1 v2
    rw [this.block g rfl]
    exact h3
theorem box_ord {w V : World} {a b c : Value} {ns : List Int} {ts : List (List UInt8)} (hb : V.heap[w.heap.size]? = some (.cells #[a, b, c] 32 (0, 0))) (k : Int) (v1 v2 : Value) (h1 : RowN v1 ns w.heap.size V) (h2 : RowT v2 ts w.heap.size V) (hK : KeptIn (· < w.heap.size) w V) :
    BoxO w.heap.size k v1 v2 (stO V w.heap.size k v1 v2) ∧ RowN v1 ns w.heap.size (stO V w.heap.size k v1 v2) ∧ RowT v2 ts w.heap.size (stO V w.heap.size k v1 v2) ∧ KeptIn (· < w.heap.size) w (stO V w.heap.size k v1 v2) :=
  ⟨stO_box hb k v1 v2, rowN_stO h1 hb k v1 v2, rowT_stO h2 hb k v1 v2, hK.stO (Nat.lt_irrefl _) k v1 v2⟩
/-- What form answers. -/
def FormP (o : Od) (B : Nat) (e : Ending) (w' : World) : Prop := ∃ v1 v2, e = .returned (oS ((o.k + 1 : Nat) : Int) v1 v2) ∧ RowN v1 (nsOf o) B w' ∧ RowT v2 (tsOf o) B w'

theorem build_ord (W : World) (k : Int) (v1 v2 : Value) (y : Nat) (hb : ∃ c, W.heap[y]? = some (.cells c 32 (0, 0)) ∧ c.size = 3) : True := trivial

set_option maxRecDepth 1000000 in
set_option maxHeartbeats 4000000 in
theorem oForm (o : Od) (h : o.ok) (w : World) :
    Calls Tryd.prog 12 #[valO o] w fun e w' => FormP o w.heap.size e w' ∧ KeptIn (· < w.heap.size) w w' := by
  obtain ⟨f, z, hm, hf, hw⟩ := oWord o h
  have CN := oNumbers o h
  have CD := oData o h
  unfold FormP
  have h1 : valO o = .iface (tyO o.k) (.agg (numC o.ns ++ txtC o.ts).toArray) := rfl
  rw [h1] at CN CD ⊢
  generalize Value.agg (numC o.ns ++ txtC o.ts).toArray = y at CN CD hm ⊢
  generalize tyO o.k = ty at CN CD hm ⊢
  obtain ⟨ns, hns⟩ : ∃ ns, nsOf o = ns := ⟨_, rfl⟩
  obtain ⟨ts, hts⟩ : ∃ ts, tsOf o = ts := ⟨_, rfl⟩
  rw [hns] at CN ⊢
  rw [hts] at CD ⊢
  have hk15 := h.k
  obtain ⟨kk, hkk⟩ : ∃ kk, o.k = kk := ⟨_, rfl⟩
  rw [hkk] at hk15 hw ⊢
  replace CN := Lib.hid CN
  replace CD := Lib.hid CD
  obtain ⟨wd, hwd⟩ : ∃ wd, wordL kk = wd := ⟨_, rfl⟩
  rw [hwd] at hw
  replace hw := Lib.hid hw
  replace hwd := Lib.hid hwd
  clear h1 hns hts hkk h
  go_enter Tryd.func12, Tryd.ntmps12
  go_wp2_with fail
  obtain ⟨W0, hW0⟩ : ∃ W, w.alloc (.cells #[.int .i64 0, .slice none 0 0, .slice none 0 0] 32) = W := ⟨_, rfl⟩
  have hK0 : KeptIn (· < w.heap.size) w W0 := by rw [← hW0]; exact (KeptIn.refl _ _).alloc (fun _ h => h) _
  have hB0 : W0.heap[w.heap.size]? = some (.cells #[.int .i64 0, .slice none 0 0, .slice none 0 0] 32 (0, 0)) := by rw [← hW0]; exact heap_alloc_new _ _
  try rw [hW0]
  refine (rWords W0).mono ?_
  rintro e W1 ⟨rfl, hR, hK1⟩
  have HK1 := Lib.hid (hK0.trans (hK1.mono fun k hk => Nat.lt_of_lt_of_le hk hK0.size))
  have HB1 : Hid (W1.heap[w.heap.size]? = some (.cells #[.int .i64 0, .slice none 0 0, .slice none 0 0] 32 (0, 0))) := Lib.hid (by
    rw [hK1.block _ (Array.getElem?_eq_some_iff.1 hB0).1]
    exact hB0)
  obtain ⟨g, hg⟩ : ∃ g, W0.heap.size = g := ⟨_, rfl⟩
  rw [hg] at hR ⊢
  replace hR := Lib.hid hR
  clear hK0 hB0 hK1 hW0 hg
  go_wp2_with fail
  go_loopw [3, 5] (fun v i wr => ∃ (j x : Nat) (V : World), V = wr ∧ v = .int .i64 (x : Int) ∧ i = .int .i64 (j : Int) ∧ Hid (1 ≤ j ∧ j ≤ 16 ∧ KeptIn (· < W1.heap.size) W1 V ∧ x = if kk + 1 < j then kk + 1 else 0)) (fun _ i _ => 16 - (RowKit.intOf i).toNat)
  case atStart => exact ⟨1, 0, _, rfl, rfl, rfl, Nat.le_refl _, by decide, .refl _ _, by rw [if_neg (by omega)]⟩
  case round =>
    obtain ⟨j, x, V, rfl, rfl, rfl, H⟩ := hrel
    obtain ⟨hj1, hj, hK, hx⟩ := H.out
    clear H
    by_cases hp : j < 16
    · obtain ⟨i, rfl⟩ : ∃ i, j = i + 1 := ⟨j - 1, by omega⟩
      have hwi := wordsC_at i (by omega)
      have d1 : decide (((i + 1 : Nat) : Int) < 16) = true := decide_eq_true (by omega)
      have d2 : ((i + 1 : Nat) : Int) < 16 := by omega
      have d3 : (0 : Int) ≤ ((i + 1 : Nat) : Int) := by omega
      have d1' : decide ((i : Int) + 1 < 16) = true := decide_eq_true (by omega)
      have d2' : (i : Int) + 1 < 16 := by omega
      have d3' : (0 : Int) ≤ (i : Int) + 1 := by omega
      have hw1 := wrap_succ (i + 1) (by omega)
      have HC : Hid (∀ V2, KeptIn (· < V.heap.size) V V2 → V2.cell? ⟨g, i + 1, none⟩ = some (.string ⟨(wordL i).toArray⟩)) := Lib.hid fun V2 hk => by
        have h1 := hR.out (i + 1) _ hwi
        rw [Nat.zero_add] at h1
        exact cell_old hk (cell_old hK h1)
      obtain ⟨wi, hwi2⟩ : ∃ l, wordL i = l := ⟨_, rfl⟩
      rw [hwi2] at HC
      have hc0 : V.drew.cell? ⟨g, i + 1, none⟩ = some (.string ⟨wi.toArray⟩) := HC.out V.drew (KeptIn.refl _ _).drew
      have hcase : Hid ((wi = wd ↔ i = kk)) := Lib.hid ⟨fun e => wordL_inj i (by omega) kk hk15 (by rw [hwi2, hwd.out]; exact e), fun e => by rw [← hwi2, ← hwd.out, e]⟩
      replace hx := Lib.hid hx
      replace hK := Lib.hid hK
      have hp2 := Lib.hid hp
      clear hwi hwi2 hj1 hj hp
      by_cases hik : i = kk
      · have q1 : (wi == wd) = true := beq_iff_eq.2 (hcase.out.2 hik)
        have q2 : (wd == wi) = true := beq_iff_eq.2 (hcase.out.2 hik).symm
        replace hik := Lib.hid hik
        go_wp2_with fail
        go_region_law (first | (go_simp; refine (hw.out _).mono ?_; rintro e V2 ⟨rfl, hK2'⟩; have hK2 := undrewK hK2'; have hc2 := HC.out V2 hK2))
        all_goals
          have hK3 := Lib.hid (hK.out.trans (hK2.mono fun k hk => Nat.lt_of_lt_of_le hk hK.out.size))
          clear hK2 hK2' hc2
          go_wp2_with fail
          go_roundw
          case rel => exact ⟨i + 2, i + 1, _, rfl, by first | rfl | exact congrArg (Value.int .i64) (by omega), by first | rfl | exact congrArg (Value.int .i64) hw1 | exact congrArg (Value.int .i64) (by omega), by omega, by have := hp2.out; omega, by first | exact hK3.out | exact hK3.out.drew, by have := hik.out; rw [if_pos (by omega)]; omega⟩
          case measure => first | exact ms_step hp2.out rfl | exact ms_step hp2.out hw1 | exact ms_step hp2.out (by omega)
      · have q1 : (wi == wd) = false := beq_eq_false_iff_ne.2 (fun e => hik (hcase.out.1 e))
        have q2 : (wd == wi) = false := beq_eq_false_iff_ne.2 (fun e => hik (hcase.out.1 e.symm))
        replace hik := Lib.hid hik
        go_wp2_with fail
        go_region_law (first | (go_simp; refine (hw.out _).mono ?_; rintro e V2 ⟨rfl, hK2'⟩; have hK2 := undrewK hK2'; have hc2 := HC.out V2 hK2))
        all_goals
          have hK3 := Lib.hid (hK.out.trans (hK2.mono fun k hk => Nat.lt_of_lt_of_le hk hK.out.size))
          clear hK2 hK2' hc2
          go_wp2_with fail
          go_roundw
          case rel => exact ⟨i + 2, x, _, rfl, rfl, by first | rfl | exact congrArg (Value.int .i64) hw1 | exact congrArg (Value.int .i64) (by omega), by omega, by have := hp2.out; omega, by first | exact hK3.out | exact hK3.out.drew, by have h1 := hik.out; have h2 := hx.out; rw [h2]; by_cases q : kk + 1 < i + 1; rw [if_pos q, if_pos (by omega)]; rw [if_neg q, if_neg (by omega)]⟩
          case measure => first | exact ms_step hp2.out rfl | exact ms_step hp2.out hw1 | exact ms_step hp2.out (by omega)
    · obtain rfl : j = 16 := by omega
      rw [if_pos (by omega)] at hx
      subst hx
      have HB2 : Hid (∀ V2, KeptIn (· < V.heap.size) V V2 → V2.heap[w.heap.size]? = some (.cells #[.int .i64 0, .slice none 0 0, .slice none 0 0] 32 (0, 0))) := Lib.hid fun V2 hk => by
        have h1 := HB1.out
        have hlt := (Array.getElem?_eq_some_iff.1 h1).1
        rw [hk.block _ (Nat.lt_of_lt_of_le hlt hK.size), hK.block _ hlt]
        exact h1
      have HK2 := Lib.hid (HK1.out.trans (hK.mono fun k hk => Nat.lt_of_lt_of_le hk HK1.out.size))
      clear hK hj hj1 hp
      go_wp2_with fail
      refine (CN.out V).mono ?_
      rintro e V3 ⟨v1, rfl, r1, hK3⟩
      have HB3 := Lib.hid (HB2.out V3 hK3)
      have HK3 := Lib.hid (HK2.out.trans (hK3.mono fun k hk => Nat.lt_of_lt_of_le hk HK2.out.size))
      obtain ⟨a1, rfl, _⟩ := r1.rd
      replace r1 := Lib.hid (rowN_down r1 HK2.out.size)
      clear CN HB2 HK2 hK3
      go_wp2_with fail
      refine (CD.out V3).mono ?_
      rintro e V4 ⟨v2, rfl, r2, hK4⟩
      obtain ⟨a2, rfl, _⟩ := r2.rd
      have hb : V4.heap[w.heap.size]? = some (.cells #[.int .i64 0, .slice none 0 0, .slice none 0 0] 32 (0, 0)) := by
        rw [hK4.block _ (Array.getElem?_eq_some_iff.1 HB3.out).1]
        exact HB3.out
      have HK4 := Lib.hid (HK3.out.trans (hK4.mono fun k hk => Nat.lt_of_lt_of_le hk HK3.out.size))
      have r1' := Lib.hid (r1.out.old hK4)
      have r2' := Lib.hid (rowT_down r2 HK3.out.size)
      have hbox := Lib.hid (box_ord hb ((kk + 1 : Nat) : Int) _ _ r1'.out r2'.out HK4.out)
      have hke : ((kk + 1 : Nat) : Int) = (kk : Int) + 1 := by omega
      rw [hke] at hbox
      replace hke := Lib.hid hke
      have c0 : V4.cell? ⟨w.heap.size, 0, none⟩ = some (.int .i64 0) := by unfold World.cell?; rw [hb]; rfl
      have c1 : V4.cell? ⟨w.heap.size, 1, none⟩ = some (.slice none 0 0) := by unfold World.cell?; rw [hb]; rfl
      have c2 : V4.cell? ⟨w.heap.size, 2, none⟩ = some (.slice none 0 0) := by unfold World.cell?; rw [hb]; rfl
      have s0 : V4.shape? w.heap.size = some (32, 3) := by simp [World.shape?, hb]
      have f0 : ∀ i, V4.frozen? ⟨w.heap.size, i, none⟩ = false := fun i => by simp [World.frozen?, hb]
      clear CD HB3 HK3 hK4 hb r1 r2
      go_wp2_with fail
      exact bodyPost_ret (results_ord rfl _ _ w.heap.size ((kk : Int) + 1) _ _ rfl hbox.out.1) rfl ⟨⟨_, _, by rw [hke.out], hbox.out.2.1, hbox.out.2.2.1⟩, hbox.out.2.2.2⟩

end Go.Proofs.YtlldmebjgidbaaaDoor
