/- The reference of layer 4 (tierceref04): stores into its rows; Flush. -/
import Derived.Test.YtbgkfeikfkbfmaaRef4b
set_option linter.unusedVariables false
namespace Go.Proofs.Ytbgkfeikfkbfmaa
open Go.RowKit

/-- Block k is none of the three rows. -/
def Not3 (vn vs vl : Value) (k : Nat) : Prop := vn.ownBlock ≠ some k ∧ vs.ownBlock ≠ some k ∧ vl.ownBlock ≠ some k

section
variable {B u g cap : Nat} {vn vs vl : Value} {Nw Sf : List (List UInt8)} {Ls : List Bool} {w : World}

theorem IsU.drew (h : IsU B u vn vs vl Nw Sf Ls w) : IsU B u vn vs vl Nw Sf Ls w.drew := h.kept (X := fun _ => True) ((KeptIn.refl _ w).drew) (fun _ _ => trivial)

theorem str_block {g : Nat} {n : Nat} {xs : List Value} (h : w.ownsRow B 9 1 (.slice (some ⟨g, 0, none⟩) n cap) n xs) : ∃ cur, w.heap[g]? = some (.cells cur 9 (0, 0)) := by
  rcases h.2 with ⟨h1, _⟩ | ⟨g', cap', cur, h1, hg, hb, _⟩
  · cases h1
  · simp only [Value.slice.injEq, Option.some.injEq, Addr.mk.injEq, and_true, true_and] at h1
    obtain ⟨rfl, rfl⟩ := h1
    exact ⟨cur, hb⟩
theorem bool_block {g : Nat} {n : Nat} {xs : List Value} (h : w.ownsRow B 4 1 (.slice (some ⟨g, 0, none⟩) n cap) n xs) : ∃ cur, w.heap[g]? = some (.cells cur 4 (0, 0)) := by
  rcases h.2 with ⟨h1, _⟩ | ⟨g', cap', cur, h1, hg, hb, _⟩
  · cases h1
  · simp only [Value.slice.injEq, Option.some.injEq, Addr.mk.injEq, and_true, true_and] at h1
    obtain ⟨rfl, rfl⟩ := h1
    exact ⟨cur, hb⟩

theorem set_other {a : Addr} {x : Value} {k : Nat} (h : k ≠ a.block) : (w.setCell a x).heap[k]? = w.heap[k]? := heap_setCell_other _ _ _ _ h

/-- A safe sector is stored. -/
theorem IsU.setS (h : IsU B u vn (.slice (some ⟨g, 0, none⟩) Sf.length cap) vl Nw Sf Ls w) (j : Nat) (hj : j < Sf.length) (x : List UInt8) :
    IsU B u vn (.slice (some ⟨g, 0, none⟩) Sf.length cap) vl Nw (Sf.set j x) Ls (w.setCell ⟨g, j, none⟩ (strV x)) := by
  obtain ⟨cur, hb⟩ := str_block h.rs
  have hug : u ≠ g := fun e => by
    have := h.hu; rw [e, hb] at this
    simp only [Option.some.injEq, Obj.cells.injEq] at this
    exact absurd this.2.1 (by decide)
  refine ⟨(set_other hug).trans h.hu, h.hB, row_block h.rn fun k e => set_other (fun e2 => h.ne k e (by rw [e2]; rfl)), ?_, row_block h.rl fun k e => set_other (fun e2 => ?_), by simpa using h.ls, h.ll, by simpa using h.ne⟩
  · have := row_set h.rs j hj (strV x)
    rw [List.length_set, List.map_set]
    exact this
  · exact row_ne h.rl hb (by decide) (by rw [e, e2])

/-- A sector asf it is now is stored. -/
theorem IsU.setN (h : IsU B u (.slice (some ⟨g, 0, none⟩) Nw.length cap) vs vl Nw Sf Ls w) (j : Nat) (hj : j < Nw.length) (x : List UInt8) :
    IsU B u (.slice (some ⟨g, 0, none⟩) Nw.length cap) vs vl (Nw.set j x) Sf Ls (w.setCell ⟨g, j, none⟩ (strV x)) := by
  obtain ⟨cur, hb⟩ := str_block h.rn
  have hug : u ≠ g := fun e => by
    have := h.hu; rw [e, hb] at this
    simp only [Option.some.injEq, Obj.cells.injEq] at this
    exact absurd this.2.1 (by decide)
  refine ⟨(set_other hug).trans h.hu, h.hB, ?_, row_block h.rs fun k e => set_other (fun e2 => h.ne g rfl (by rw [e]; exact congrArg some e2)), row_block h.rl fun k e => set_other (fun e2 => ?_), by simpa using h.ls, by simpa using h.ll, h.ne⟩
  · have := row_set h.rn j hj (strV x)
    rw [List.length_set, List.map_set]
    exact this
  · exact row_ne h.rl hb (by decide) (by rw [e, e2])

/-- Whether a sector is loose is stored. -/
theorem IsU.setL (h : IsU B u vn vs (.slice (some ⟨g, 0, none⟩) Ls.length cap) Nw Sf Ls w) (j : Nat) (hj : j < Ls.length) (x : Bool) :
    IsU B u vn vs (.slice (some ⟨g, 0, none⟩) Ls.length cap) Nw Sf (Ls.set j x) (w.setCell ⟨g, j, none⟩ (.bool x)) := by
  obtain ⟨cur, hb⟩ := bool_block h.rl
  have hug : u ≠ g := fun e => by
    have := h.hu; rw [e, hb] at this
    simp only [Option.some.injEq, Obj.cells.injEq] at this
    exact absurd this.2.1 (by decide)
  refine ⟨(set_other hug).trans h.hu, h.hB, row_block h.rn fun k e => set_other (fun e2 => ?_), row_block h.rs fun k e => set_other (fun e2 => ?_), ?_, h.ls, by simpa using h.ll, h.ne⟩
  · exact row_ne h.rn hb (by decide) (by rw [e, e2])
  · exact row_ne h.rs hb (by decide) (by rw [e, e2])
  · have := row_set h.rl j hj (.bool x)
    rw [List.length_set, List.map_set]
    exact this

end

/-- The first j sectors are flushed. -/
def flS (Nw Sf : List (List UInt8)) (j : Nat) : List (List UInt8) := Nw.take j ++ Sf.drop j
def flL (Ls : List Bool) (j : Nat) : List Bool := List.replicate j false ++ Ls.drop j

theorem flS_succ (Nw Sf : List (List UInt8)) (j : Nat) (x : List UInt8) (hx : Nw[j]? = some x) (h2 : j < Sf.length) : (flS Nw Sf j).set j x = flS Nw Sf (j + 1) := by
  have h1 : j < Nw.length := (List.getElem?_eq_some_iff.1 hx).1
  obtain rfl : Nw[j] = x := by rw [List.getElem?_eq_getElem h1] at hx; exact Option.some.inj hx
  have hl : (Nw.take j).length = j := by simp; omega
  unfold flS
  rw [List.set_append_right _ _ (by omega), hl, Nat.sub_self, List.drop_eq_getElem_cons h2, List.set_cons_zero, List.take_succ_eq_append_getElem h1, List.append_assoc, List.singleton_append]
theorem flL_succ (Ls : List Bool) (j : Nat) (h : j < Ls.length) : (flL Ls j).set j false = flL Ls (j + 1) := by
  unfold flL
  rw [List.set_append_right _ _ (by simp), List.length_replicate, Nat.sub_self, List.drop_eq_getElem_cons h, List.set_cons_zero, List.replicate_succ', List.append_assoc, List.singleton_append]
theorem flS_length (Nw Sf : List (List UInt8)) (j : Nat) (h : j ≤ Nw.length) (h2 : Sf.length = Nw.length) : (flS Nw Sf j).length = Nw.length := by simp [flS]; omega
theorem flL_length (Ls : List Bool) (j : Nat) (h : j ≤ Ls.length) : (flL Ls j).length = Ls.length := by simp [flL]; omega

set_option maxHeartbeats 1000000 in
set_option maxRecDepth 100000 in
theorem r4Flush (B u : Nat) (vn vs vl : Value) (Nw Sf : List (List UInt8)) (Ls : List Bool) (w : World) (h : IsU B u vn vs vl Nw Sf Ls w) (hm : Nw.length ≤ 16384) :
    Calls Try.prog 29 #[.pointer (some ⟨u, 0, none⟩)] w fun e w' => e = .returned (.tuple #[]) ∧ IsU B u vn vs vl Nw Nw (List.replicate Nw.length false) w' ∧ KeptIn (Not3 vn vs vl) w w' := by
  obtain ⟨n, hn⟩ : ∃ n, Nw.length = n := ⟨_, rfl⟩
  have hls := h.ls; have hll := h.ll
  obtain ⟨an, cn, rfl, _⟩ := row_shape h.rn
  obtain ⟨asf, cs, rfl, _⟩ := row_shape h.rs
  obtain ⟨al, cl, rfl, _⟩ := row_shape h.rl
  have HN : Hid (Nw.length = n ∧ Sf.length = n ∧ Ls.length = n ∧ n ≤ 16384) := Lib.hid (by omega)
  have HJ0 : Hid (IsU B u (.slice an n cn) (.slice asf n cs) (.slice al n cl) Nw (flS Nw Sf 0) (flL Ls 0) w ∧ KeptIn (Not3 (.slice an n cn) (.slice asf n cs) (.slice al n cl)) w w) := Lib.hid ⟨by
    rw [HN.out.1, HN.out.2.1, HN.out.2.2.1] at h
    exact h, .refl _ _⟩
  have hnI : (n : Int) ≤ 16384 := by omega
  rw [hls, hll, hn]
  clear h hls hll hn hm
  go_enter Try.func29, Try.ntmps29
  go_wp2_with fail
  go_loopw [2] (fun c wr => ∃ (j : Nat) (W : World), W = wr ∧ j ≤ n ∧ c = .int .i64 j ∧ Hid (IsU B u (.slice an n cn) (.slice asf n cs) (.slice al n cl) Nw (flS Nw Sf j) (flL Ls j) W ∧ KeptIn (Not3 (.slice an n cn) (.slice asf n cs) (.slice al n cl)) w W)) (fun c _ => n - (RowKit.intOf c).toNat)
  case atStart => exact ⟨0, _, rfl, Nat.zero_le _, rfl, HJ0⟩
  case round =>
    obtain ⟨j, W, rfl, hj, rfl, HJ⟩ := hrel
    clear HJ0
    have c0 := HJ.out.1.c0; have c1 := HJ.out.1.c1; have c2 := HJ.out.1.c2
    by_cases hlt : j < n
    · have i0 : (0 : Int) ≤ (j : Int) := by omega
      have i1 : (j : Int) < (n : Int) := by omega
      have hN := HN.out
      have hSl : (flS Nw Sf j).length = n := by rw [flS_length _ _ _ (by omega) (by omega)]; omega
      have hLl : (flL Ls j).length = n := by rw [flL_length _ _ (by omega)]; omega
      obtain ⟨gn, cn', e1, _, _, _, _, hcn, _⟩ := row_at HJ.out.1.rn (by omega)
      obtain ⟨gs, cs', e2, _, _, _, _, hcs, hfs⟩ := row_at HJ.out.1.rs (by omega)
      obtain ⟨gl, cl', e3, _, _, _, _, hcl, hfl⟩ := row_at HJ.out.1.rl (by omega)
      rw [hN.1] at e1; rw [hSl] at e2; rw [hLl] at e3
      simp only [Value.slice.injEq, true_and] at e1 e2 e3
      obtain ⟨rfl, rfl⟩ := e1; obtain ⟨rfl, rfl⟩ := e2; obtain ⟨rfl, rfl⟩ := e3
      have hjn : j < Nw.length := by omega
      have hx := hcn j (strV Nw[j]) (by rw [List.getElem?_map, List.getElem?_eq_getElem hjn]; rfl)
      obtain ⟨y, hy⟩ : ∃ y, W.cell? ⟨gs, j, none⟩ = some y := ⟨_, hcs j _ (List.getElem?_eq_getElem (by rw [List.length_map, hSl]; exact hlt))⟩
      have fy := hfs j
      obtain ⟨x, hxe⟩ : ∃ x, Nw[j] = x := ⟨_, rfl⟩
      rw [hxe] at hx
      unfold strV at hx
      have HX : Hid (Nw[j]? = some x) := Lib.hid (by rw [List.getElem?_eq_getElem hjn, hxe])
      clear hcn hcs hcl hfs hfl hxe hSl hLl hN hjn
      go_wp2_with fail
      go_region
      obtain ⟨W2, hW2⟩ : ∃ W2, (W.setCell ⟨gs, j, none⟩ (.string ⟨x.toArray⟩)).drew = W2 := ⟨_, rfl⟩
      rw [hW2]
      have hU2 : IsU B u (.slice (some ⟨gn, 0, none⟩) n cn) (.slice (some ⟨gs, 0, none⟩) n cs) (.slice (some ⟨gl, 0, none⟩) n cl) Nw (flS Nw Sf (j + 1)) (flL Ls j) W2 := by
        have hN := HN.out
        have hSl : (flS Nw Sf j).length = n := by rw [flS_length _ _ _ (by omega) (by omega)]; omega
        rw [← hW2, ← flS_succ Nw Sf j x HX.out (by omega)]
        have := HJ.out.1
        rw [← hSl] at this
        have h2 := (this.setS j (by omega) x).drew
        rw [hSl] at h2
        exact h2
      have hK2 : KeptIn (Not3 (.slice (some ⟨gn, 0, none⟩) n cn) (.slice (some ⟨gs, 0, none⟩) n cs) (.slice (some ⟨gl, 0, none⟩) n cl)) w W2 := by
        rw [← hW2]
        exact (HJ.out.2.setCell (p := ⟨gs, j, none⟩) (fun h => h.2.1 rfl) _).drew
      clear hW2 c0 c1 c2 hy fy hx
      have c2 := hU2.c2
      have hLl : (flL Ls j).length = n := by have hN := HN.out; rw [flL_length _ _ (by omega)]; omega
      obtain ⟨gl', cl', e3, _, _, _, _, hcl, hfl⟩ := row_at hU2.rl (by omega)
      rw [hLl] at e3
      simp only [Value.slice.injEq, true_and, Option.some.injEq, Addr.mk.injEq, and_true] at e3
      obtain ⟨rfl, rfl⟩ := e3
      obtain ⟨y, hy⟩ : ∃ y, W2.cell? ⟨gl, j, none⟩ = some y := ⟨_, hcl j _ (List.getElem?_eq_getElem (by rw [List.length_map, hLl]; exact hlt))⟩
      have fy := hfl j
      have HJ2 : Hid (IsU B u (.slice (some ⟨gn, 0, none⟩) n cn) (.slice (some ⟨gs, 0, none⟩) n cs) (.slice (some ⟨gl, 0, none⟩) n cl) Nw (flS Nw Sf (j + 1)) (flL Ls (j + 1)) (W2.setCell ⟨gl, j, none⟩ (.bool false)) ∧ KeptIn (Not3 (.slice (some ⟨gn, 0, none⟩) n cn) (.slice (some ⟨gs, 0, none⟩) n cs) (.slice (some ⟨gl, 0, none⟩) n cl)) w (W2.setCell ⟨gl, j, none⟩ (.bool false))) := Lib.hid (by
        have hN := HN.out
        refine ⟨?_, hK2.setCell (p := ⟨gl, j, none⟩) (fun h => h.2.2 rfl) _⟩
        rw [← flL_succ Ls j (by omega)]
        have := hU2
        rw [← hLl] at this
        have h2 := this.setL j (by omega) false
        rw [hLl] at h2
        exact h2)
      clear hU2 hK2 hcl hfl hLl HJ HX
      go_wp2
      go_roundw
      case rel => exact ⟨j + 1, _, rfl, by omega, by go_num, HJ2⟩
      case measure => simp [RowKit.intOf]; omega
    · obtain rfl : n = j := by omega
      have HE : Hid (IsU B u (.slice an n cn) (.slice asf n cs) (.slice al n cl) Nw Nw (List.replicate n false) W ∧ KeptIn (Not3 (.slice an n cn) (.slice asf n cs) (.slice al n cl)) w W) := Lib.hid (by
        have hN := HN.out
        have e1 : flS Nw Sf n = Nw := by rw [flS, List.take_of_length_le (by omega), List.drop_of_length_le (by omega), List.append_nil]
        have e2 : flL Ls n = List.replicate n false := by rw [flL, List.drop_of_length_le (by omega), List.append_nil]
        have := HJ.out
        rw [e1, e2] at this
        exact this)
      clear HJ
      go_wp2
      go_end0
      exact ⟨rfl, HE.out⟩

end Go.Proofs.Ytbgkfeikfkbfmaa
