/- The document's answers for orders: the runes of bytes. -/
import Derived.Test.YtlldmebjgidbaaaDoorRn20
import Derived.Deep.RegionLaw
import Derived.Deep.AppendLies
set_option linter.unusedVariables false
set_option linter.unusedSimpArgs false
namespace Go.Proofs.YtlldmebjgidbaaaDoor
open Go.RowKit

/-- A row of bytes that a call makes since block B. -/
def BoJ (B : Nat) (V : World) (l : List UInt8) (v : Value) (W : World) : Prop := W.ownsRow B 5 1 v l.length (Lib.byteCells l) ∧ KeptIn (· < B) V W ∧ B ≤ W.heap.size
section
variable {B : Nat} {V W W' w8 : World} {v v' : Value} {ob : Obj} {l : List UInt8}
theorem BoJ.lt (h : BoJ B V l v W) : ∀ g, v.ownBlock = some g → B ≤ g := by
  intro g hg
  rcases h.1.2 with ⟨rfl, _⟩ | ⟨g', cap, cur, rfl, h1, h2, _⟩
  · simp [Value.ownBlock] at hg
  · simp [Value.ownBlock] at hg
    subst hg
    exact h1
theorem BoJ.form (h : BoJ B V l v W) : ∃ a c, v = .slice a l.length c := by
  rcases h.1.2 with ⟨rfl, h0⟩ | ⟨g', cap, cur, rfl, h1, h2, _⟩
  · exact ⟨none, 0, by rw [h0]⟩
  · exact ⟨_, _, rfl⟩
theorem BoJ.next (h : BoJ B V l v W) (hB : ∀ k, k < B → k < V.heap.size) {m : List UInt8} {n : Nat} (hn : (l ++ m).length = n) (hown : w8.ownsRow B 5 1 v' n (Lib.byteCells l ++ Lib.byteCells m))
    (hgrow : (W.alloc ob).grownBy w8 v.ownBlock) : BoJ B V (l ++ m) v' w8 := by
  refine ⟨?_, ?_, ?_⟩
  · rw [hn, Lib.byteCells_append]
    exact hown
  · exact (h.2.1.trans (((KeptIn.refl _ W).alloc (fun _ h => h) _).mono fun k hk => Nat.lt_of_lt_of_le hk h.2.2)).grown hB hgrow (fun g e => Nat.not_lt.2 (h.lt g e))
  · have := hgrow.size
    have h2 := h.2.2
    rw [show (W.alloc ob).heap.size = W.heap.size + 1 by simp] at this
    omega
theorem BoJ.zero (w : World) : BoJ w.heap.size w [] (.slice (some ⟨w.heap.size, 0, none⟩) 0 0) (w.alloc (.cells #[] 5)) :=
  ⟨⟨rfl, .inr ⟨w.heap.size, 0, #[], rfl, Nat.le_refl _, heap_alloc_new _ _, Nat.le_refl _, Nat.zero_le _, rfl, rfl⟩⟩, (KeptIn.refl _ w).alloc (fun _ h => h) _, by simp⟩
theorem BoJ.conv (h : BoJ B V l v W) (hl : l ≠ []) : (convert 98 9 v).run Tryd.prog W = .ok (.string ⟨l.toArray⟩) W := by
  rcases h.1.2 with ⟨rfl, h0⟩ | ⟨g, cap, cur, rfl, _, hg, _, _, hcs, htake⟩
  · exact absurd (List.length_eq_zero_iff.1 h0) hl
  · refine run_convert_bytes_back (P := Tryd.prog) W 98 9 5 ⟨g, 0, none⟩ cap l (by kernel_rfl) (by kernel_rfl) (by kernel_rfl) ?_
    intro j hj
    have hadd : (⟨g, 0, none⟩ : Addr).add j = ⟨g, j, none⟩ := by unfold Addr.add; split <;> simp_all
    rw [hadd, Lib.cell_of_heap hg]
    have : (cur.toList.take (l.length * 1))[j]? = some (.int .u8 (l[j].toNat : Int)) := by rw [htake]; simp [Lib.byteCells, hj]
    rw [List.getElem?_take] at this
    split at this
    · simpa using this
    · cases this
end
theorem undrew {w w' : World} {r : Option Nat} (h : w.drew.grownBy w' r) : w.grownBy w' r := ⟨h.os, h.tape, h.output, h.size, h.block⟩
theorem infoByte20 : (Tryd.prog.info? 5).map (fun i => (i.zero, i.size, i.bytes)) = some (some (.int .u8 0), 1, 1) := by kernel_rfl

theorem rn_num (x : UInt8) : IntKind.u8.wrap (160 + IntKind.u8.wrap ((x.toNat : Int) / 64)) = ((160 + x.toNat / 64 : Nat) : Int) ∧ IntKind.u8.wrap (128 + (x.toNat : Int).tmod 64) = ((128 + x.toNat % 64 : Nat) : Int) := by
  have := b8_lt x
  rw [Int.tmod_eq_emod_of_nonneg (by omega)]
  simp only [IntKind.wrap_u8]
  constructor <;> omega
theorem rn_cells (x : UInt8) : Lib.byteCells (rs3 x) = [.int .u8 226, .int .u8 ((160 + x.toNat / 64 : Nat) : Int), .int .u8 ((128 + x.toNat % 64 : Nat) : Int)] := by
  have := b8_lt x
  simp [Lib.byteCells, rs3]
  constructor <;> omega

set_option maxRecDepth 1000000 in
set_option maxHeartbeats 4000000 in
theorem rRunes (l : List UInt8) (hbig : l.length ≤ 100000) (w : World) :
    Calls Tryd.prog 21 #[.string ⟨l.toArray⟩] w fun e w' => e = .returned (.string ⟨(runesOf l).toArray⟩) ∧ KeptIn (· < w.heap.size) w w' := by
  by_cases h0 : l = []
  · subst h0
    go_enter Tryd.func21, Tryd.ntmps21
    go_wp2_with fail
    go_ret
    exact ⟨rfl, .refl _ _⟩
  · have hb0 : (l == []) = false := beq_eq_false_iff_ne.2 h0
    have hb1 : l.isEmpty = false := by cases l with | nil => exact absurd rfl h0 | cons a b => rfl
    go_enter Tryd.func21, Tryd.ntmps21
    go_wp2_with fail
    go_loopw [3, 4] (fun v i wr => ∃ (j : Nat) (V : World) (v0 : Value), V = wr ∧ v0 = v ∧ i = .int .i64 (j : Int) ∧ Hid (j ≤ l.length ∧ BoJ w.heap.size w (rs (l.take j)) v0 V)) (fun _ i _ => l.length - (RowKit.intOf i).toNat)
    case atStart => exact ⟨0, _, _, rfl, rfl, rfl, Nat.zero_le _, BoJ.zero w⟩
    case round =>
      obtain ⟨j, V, v0, rfl, rfl, rfl, H⟩ := hrel
      obtain ⟨hj, hB⟩ := H.out
      clear H
      by_cases hp : j < l.length
      · obtain ⟨c, hc⟩ : ∃ c, l[j]? = some c := ⟨_, List.getElem?_eq_getElem hp⟩
        have hbx := str_byte l j c hc
        have d1 : decide ((j : Int) < (l.length : Int)) = true := decide_eq_true (by omega)
        have d2 : (j : Int) < (l.length : Int) := by omega
        have d3 : (0 : Int) ≤ (j : Int) := by omega
        have d4 : decide (j < l.length) = true := decide_eq_true hp
        have hw1 := wrap_succ j (by omega)
        have hlen : (rs (l.take j)).length = 3 * j := by rw [rs_len, List.length_take]; omega
        obtain ⟨a, cap, rfl⟩ := hB.form
        rw [hlen]
        rw [hlen] at hB
        obtain ⟨m, hm⟩ : ∃ m, 3 * j = m := ⟨_, rfl⟩
        rw [hm] at hlen hB ⊢
        have hmb : m ≤ 300000 := by omega
        obtain ⟨n1, n2⟩ := rn_num c
        obtain ⟨x1, hx1⟩ : ∃ x, ((160 + c.toNat / 64 : Nat) : Int) = x := ⟨_, rfl⟩
        obtain ⟨x2, hx2⟩ : ∃ x, ((128 + c.toNat % 64 : Nat) : Int) = x := ⟨_, rfl⟩
        have hcc := rn_cells c
        rw [hx1] at n1 hcc
        rw [hx2] at n2 hcc
        replace hcc := Lib.hid hcc
        have hrow : V.ownsRow w.heap.size 5 1 (.slice a m cap) m (Lib.byteCells (rs (l.take j))) := by have := hB.1; rw [hlen] at this; exact this
        have hnx : Hid (rs (l.take (j + 1)) = rs (l.take j) ++ rs3 c ∧ (rs (l.take j) ++ rs3 c).length = m + 3) := Lib.hid ⟨rs_take l j c hc, by rw [List.length_append, hlen]; simp [rs3]⟩
        have hBs := hB.2.2
        obtain ⟨ip, hip, hp0, hp1, hp2⟩ := info_parts infoByte20
        replace hB := Lib.hid hB
        replace hp := Lib.hid hp
        clear hlen hj hc hm hx1 hx2
        go_wp2_with fail
        go_region_law (first
          | (refine step_append_lies _ (by rfl) _ _ 98 (by rfl) w.heap.size 5 ip _ 1 1 Tryd.underlying98 hip hp0 hp1 hp2 rfl (by omega) (.slice a m cap) m _ (by rfl) (hrow.alloc _) ⟨V.heap.size, 0, none⟩ 3 3 [.int .u8 226, .int .u8 x1, .int .u8 x2] (by rfl) (by rfl) (World.news_of_block (cs := #[.int .u8 226, .int .u8 x1, .int .u8 x2]) (t := 5) (fr := (0, 0)) (heap_alloc_new V _)) (by simp [Value.oneCell']) (by omega) (by unfold maxLen; omega) (by omega) (by simp; omega) (V.heap.size + 1) (by simp) ?_; intro gg cap' w1 hown1 hgrow hat hlt1))
        all_goals
          have hB3 : Hid (BoJ w.heap.size w (rs (l.take (j + 1))) (.slice (some ⟨gg, 0, none⟩) (m + 3) cap') w1) := Lib.hid (by
            rw [hnx.out.1]
            exact hB.out.next (fun _ h => h) hnx.out.2 (by rw [hcc.out]; exact hown1) (by first | exact hgrow | exact undrew hgrow))
          clear hown1 hgrow hat hlt1 hB hrow
          go_wp2_with fail
          go_roundw
          case rel => exact ⟨j + 1, _, _, rfl, rfl, by first | rfl | exact congrArg (Value.int .i64) hw1, hp.out, hB3.out⟩
          case measure => first | exact ms_step hp.out rfl | exact ms_step hp.out hw1
      · obtain rfl : j = l.length := by omega
        have d1 : decide ((l.length : Int) < (l.length : Int)) = false := decide_eq_false (by omega)
        rw [List.take_length] at hB
        have hcv := hB.conv (fun e => by have := congrArg List.length e; rw [rs_len] at this; simp only [List.length_nil] at this; exact h0 (List.length_eq_zero_iff.1 (by omega)))
        have hr : Hid (runesOf l = rs l) := Lib.hid (by unfold runesOf; rw [if_neg h0])
        have hK : Hid (KeptIn (· < w.heap.size) w V) := Lib.hid hB.2.1
        clear hB hj hp
        go_wp2_with fail
        go_ret
        rw [hr.out]
        exact ⟨rfl, hK.out⟩

end Go.Proofs.YtlldmebjgidbaaaDoor
