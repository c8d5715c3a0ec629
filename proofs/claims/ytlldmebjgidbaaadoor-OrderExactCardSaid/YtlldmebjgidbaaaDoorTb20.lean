/- What the library's texts read of the world: the table of powers of ten, and one integer. Contracts of the library's calls over the frame 'all old blocks stand'. -/
import Derived.Test.YtlldmebjgidbaaaDoorRows
import Derived.Test.YtlldmebjgidbaaaDoorSh20
import Derived.Test.YtlldmebjgidbaaaDoorKept
import Derived.Lib.AppendIntMem
import Derived.Lib.LaidTab
import Derived.MakeChecks
set_option linter.unusedVariables false
namespace Go.Proofs.YtlldmebjgidbaaaDoor
open Go.RowKit

structure Tb20 (w : World) : Prop where
  pow : Lib.TabIs Tryd.prog w "internal/strconv.uint64pow10" .u64 Lib.pow10Tab
  mx : ∃ m, w.cell? ⟨1, 0, none⟩ = some (.int .i64 m)

theorem pow_named : Tryd.prog.globalNamed "internal/strconv.uint64pow10" = some 0 := by kernel_rfl
theorem pow_type : (Tryd.prog.globals[0]?).map (·.type) = some 132 := by kernel_rfl

theorem Tb20.kept {w w' : World} (h : Tb20 w) (k : KeptIn (· < w.heap.size) w w') : Tb20 w' := by
  refine ⟨?_, ?_⟩
  · have h1 := h.pow
    unfold Lib.TabIs World.var? at h1 ⊢
    rw [pow_named] at h1 ⊢
    simp only [Option.bind_some] at h1 ⊢
    have hlt : 0 < w.heap.size := by
      rcases Nat.lt_or_ge 0 w.heap.size with h' | h'
      · exact h'
      · rw [Array.getElem?_eq_none h'] at h1; exact absurd h1 (by simp)
    rw [k.block _ hlt]
    exact h1
  · obtain ⟨m, hm⟩ := h.mx
    refine ⟨m, ?_⟩
    have hlt : 1 < w.heap.size := by
      rcases Nat.lt_or_ge 1 w.heap.size with h' | h'
      · exact h'
      · unfold World.cell? at hm
        rw [Array.getElem?_eq_none h'] at hm
        exact absurd hm (by simp)
    unfold World.cell? at hm ⊢
    rw [k.block _ hlt]
    exact hm

theorem laid_tail20 {P : Program} {W : World} {x : String × DataW Unit} {rest : List (String × DataW Unit)} (h : laidMet P (x :: rest) W) : laidMet P rest W := by
  obtain ⟨ps, ⟨g, t, cs, fuel, p, q, h1, h2, h3, h4, h5, rfl⟩, hn, hc⟩ := h
  exact ⟨q, h5, (List.nodup_append.1 hn).2.1, fun b off hm => hc b off (List.mem_append_right _ hm)⟩

theorem pow_head {W : World} {rest : List (String × DataW Unit)} (h : laidMet Tryd.prog (("internal/strconv.uint64pow10", Rows.laid_internal_strconv_uint64pow10) :: rest) W) : Lib.TabIs Tryd.prog W "internal/strconv.uint64pow10" .u64 Lib.pow10Tab :=
  Lib.tabIs_of_head pow_named pow_type Tryd.underlying132 Tryd.underlying94 (by kernel_rfl) (by kernel_rfl) h

theorem pow_mem {W : World} : ∀ {L : List (String × DataW Unit)}, laidMet Tryd.prog L W → ("internal/strconv.uint64pow10", Rows.laid_internal_strconv_uint64pow10) ∈ L → Lib.TabIs Tryd.prog W "internal/strconv.uint64pow10" .u64 Lib.pow10Tab
  | [], _, hm => by cases hm
  | x :: r, h, hm => by
    rcases List.mem_cons.1 hm with e | hm
    · subst e
      exact pow_head h
    · exact pow_mem (laid_tail20 h) hm

theorem tb20_of {W : World} {L : List (String × DataW Unit)} (hp : (L.all fun x => x.2.handleName?.isNone) = true) (hm : ("internal/strconv.uint64pow10", Rows.laid_internal_strconv_uint64pow10) ∈ L) (h : laidMetH Tryd.prog L W) (hs : W.ShapedOpen Tryd.prog) : Tb20 W := by
  rw [MakeChecks.laidMetH_plain _ _ _ hp] at h
  exact ⟨pow_mem h hm, Tryd.laysM147.s1_3 W hs⟩

theorem tItoa (n : Int) (h0 : -9223372036854775808 ≤ n) (h1 : n ≤ 9223372036854775807) (w : World) (T : Tb20 w) :
    Calls Tryd.prog 23 #[.int .i64 n] w fun e w' => e = .returned (.string ⟨(Lib.itoa n).toArray⟩) ∧ KeptIn (· < w.heap.size) w w' := by
  refine (Tryd.strconv_Itoa n h0 h1 w T.pow).mono ?_
  rintro e w' ⟨rfl, k, os, rfl⟩
  exact ⟨rfl, .of_below (Lib.below_grow w.heap.size w (Nat.le_refl _) k os) (fun _ h => h)⟩

/-- A slice of strings. -/
def strsV (xs : List (List UInt8)) : List ByteArray := xs.map fun l => ⟨l.toArray⟩

theorem strsV_data (xs : List (List UInt8)) : (strsV xs).map (·.data.toList) = xs := by simp [strsV, Function.comp_def]

theorem tJoin (bk o c : Nat) (xs : List (List UInt8)) (w : World)
    (hcells : ∀ (j : Nat) x, xs[j]? = some x → w.cell? ⟨bk, o + j, none⟩ = some (.string ⟨x.toArray⟩)) (hbk : bk < w.heap.size) (hN : xs.length ≤ 140737488355328) (hcap : xs.length ≤ c)
    (hlen : (Lib.join xs [32]).length ≤ 140737488355328) :
    Calls Tryd.prog 25 #[.slice (some ⟨bk, o, none⟩) xs.length c, .string ⟨#[32]⟩] w fun e w' => e = .returned (.string ⟨(Lib.join xs [32]).toArray⟩) ∧ KeptIn (· < w.heap.size) w w' := by
  have hl : (strsV xs).length = xs.length := by simp [strsV]
  have h := Tryd.strings_Join bk o c (strsV xs) ⟨#[32]⟩ w (fun j x hx => by
    simp only [strsV, List.getElem?_map, Option.map_eq_some_iff] at hx
    obtain ⟨y, hy, rfl⟩ := hx
    exact hcells j y hy) hbk (by rw [hl]; exact hN) (by rw [hl]; exact hcap) (by rw [strsV_data]; exact hlen)
  rw [strsV_data, hl] at h
  refine h.mono ?_
  rintro e w' ⟨rfl, hb⟩
  exact ⟨rfl, .of_below hb (fun _ h => h)⟩

theorem tCut (l : List UInt8) (w : World) :
    Calls Tryd.prog 37 #[.string ⟨l.toArray⟩, .string ⟨#[45]⟩] w fun e w' => e = .returned (.tuple #[.string ⟨(Lib.trimPrefix l [45]).toArray⟩, .bool (Lib.hasPrefix l [45])]) ∧ w' = w :=
  Tryd.strings_CutPrefix ⟨l.toArray⟩ ⟨#[45]⟩ w

end Go.Proofs.YtlldmebjgidbaaaDoor
