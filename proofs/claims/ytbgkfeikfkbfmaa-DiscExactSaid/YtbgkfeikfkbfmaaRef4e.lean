/- The reference of layer 4 (tierceref04): Of. -/
import Derived.Test.YtbgkfeikfkbfmaaRef4c
import Derived.Deep.AppendLies
import Derived.Deep.RegionLaw
import Derived.Deep.Cut
import Derived.Deep.CutRange
set_option linter.unusedVariables false
namespace Go.Proofs.Ytbgkfeikfkbfmaa
open Go.RowKit

theorem infoStr : (Try.prog.info? 9).map (fun i => (i.zero, i.size, i.bytes)) = some (some (.string ByteArray.empty), 1, 16) := by kernel_rfl
theorem infoBool : (Try.prog.info? 4).map (fun i => (i.zero, i.size, i.bytes)) = some (some (.bool false), 1, 1) := by kernel_rfl

theorem secs_succ (l : List UInt8) (j : Nat) : secs l (j + 1) = secs l j ++ [nth l j] := by simp [secs, List.range_succ]

theorem extract_nth (l : List UInt8) (j k k2 : Nat) (hk : k = 16 * j) (hk2 : k2 = k + 16) (hl : k2 ≤ l.length) : (⟨l.toArray⟩ : ByteArray).extract k k2 = ⟨(nth l j).toArray⟩ := by
  apply ByteArray.ext
  simp only [ByteArray.data_extract, nth, ← hk]
  apply Array.toList_inj.1
  simp only [Array.toList_extract, List.extract_eq_take_drop]
  rw [show k2 - k = 16 by omega]

/-- What the reference's rows are while they are built. -/
structure Row3 (B : Nat) (vn vs vl : Value) (xs : List (List UInt8)) (j1 j2 j3 : Nat) (W : World) : Prop where
  rn : W.ownsRow B 9 1 vn j1 ((xs.take j1).map strV)
  rs : W.ownsRow B 9 1 vs j2 ((xs.take j2).map strV)
  rl : W.ownsRow B 4 1 vl j3 (List.replicate j3 (.bool false))
  ne : ∀ g, vn.ownBlock = some g → vs.ownBlock ≠ some g

/-- The block that names the rows, the rows, and what was there. -/
def At3 (B : Nat) (w0 : World) (xs : List (List UInt8)) (j1 j2 j3 : Nat) (W : World) : Prop :=
  ∃ vn vs vl, W.heap[B]? = some (.cells #[vn, vs, vl] 40 (0, 0)) ∧ Row3 B vn vs vl xs j1 j2 j3 W ∧ KeptIn (· < B) w0 W

section
variable {B gg cap cap' j j1 j2 j3 : Nat} {a : Option Addr} {vn vs vl : Value} {xs : List (List UInt8)} {x : List UInt8} {w0 W w1 : World}

theorem grown_block {o : Obj} {own : Option Nat} (hg : ((W.alloc o).drew).grownBy w1 own) (k : Nat) (hk : k < W.heap.size) (hne : own ≠ some k) : w1.heap[k]? = W.heap[k]? :=
  (hg.block k (by simp [World.drew]; omega) (fun e => hne e.symm)).trans (Lib.alloc_old W o k hk)
theorem grown_block' {o : Obj} {own : Option Nat} (hg : (W.alloc o).grownBy w1 own) (k : Nat) (hk : k < W.heap.size) (hne : own ≠ some k) : w1.heap[k]? = W.heap[k]? :=
  (hg.block k (by simp; omega) (fun e => hne e.symm)).trans (Lib.alloc_old W o k hk)

theorem own_str {v : Value} {n : Nat} {xs : List Value} {T : TypeId} (h : W.ownsRow B T 1 v n xs) {k : Nat} (e : v.ownBlock = some k) : ∃ cur, W.heap[k]? = some (.cells cur T (0, 0)) := by
  rcases h.2 with ⟨rfl, _⟩ | ⟨g, cap, cur, rfl, hg, hb, _⟩
  · cases e
  · have : g = k := by simpa [Value.ownBlock] using e
    subst this
    exact ⟨cur, hb⟩

theorem take_map_succ (xs : List (List UInt8)) (j : Nat) (x : List UInt8) (h : xs[j]? = some x) : (xs.take (j + 1)).map strV = (xs.take j).map strV ++ [strV x] := by
  obtain ⟨h1, rfl⟩ := List.getElem?_eq_some_iff.1 h
  rw [List.take_succ_eq_append_getElem h1, List.map_append]
  rfl

theorem appN (hb : W.heap[B]? = some (.cells #[.slice a j cap', vs, vl] 40 (0, 0))) (h : Row3 B (.slice a j cap') vs vl xs j j2 j3 W) (hx : xs[j]? = some x)
    (hblk : ∀ k, k < W.heap.size → (Value.slice a j cap').ownBlock ≠ some k → w1.heap[k]? = W.heap[k]?) (hk1 : KeptIn (· < B) w0 w1) (hat : (Value.slice a j cap').ownBlock = some gg ∨ gg = W.heap.size + 1)
    (hown : w1.ownsRow B 9 1 (.slice (some ⟨gg, 0, none⟩) (j + 1) cap) (j + 1) ((xs.take j).map strV ++ [strV x])) :
    At3 B w0 xs (j + 1) j2 j3 (w1.setCell ⟨B, 0, none⟩ (.slice (some ⟨gg, 0, none⟩) (j + 1) cap)) := by
  have hBW := (Array.getElem?_eq_some_iff.1 hb).1
  have hneB := row_ne h.rn hb (by decide)
  have hgB : gg ≠ B := by
    rintro rfl
    rcases hat with e | e
    · exact hneB e
    · omega
  refine ⟨.slice (some ⟨gg, 0, none⟩) (j + 1) cap, vs, vl, ?_, ⟨?_, ?_, ?_, ?_⟩, hk1.setCell (p := ⟨B, 0, none⟩) (Nat.lt_irrefl B) _⟩
  · rw [heap_setCell_same _ _ _ _ _ _ ((hblk B hBW hneB).trans hb)]
    rfl
  · refine row_block ?_ fun g e => set_other ?_
    · rw [take_map_succ xs j x hx]; exact hown
    · have : gg = g := by simpa [Value.ownBlock] using e
      show g ≠ B
      omega
  · refine row_block (row_block h.rs fun g e => hblk g (h.rs.lt g e).2 fun e2 => h.ne g e2 e) fun g e => set_other ?_
    rintro rfl
    exact row_ne h.rs hb (by decide) e
  · refine row_block (row_block h.rl fun g e => hblk g (h.rl.lt g e).2 fun e2 => ?_) fun g e => set_other ?_
    · obtain ⟨cur, hc⟩ := own_str h.rn e2
      exact row_ne h.rl hc (by decide) e
    · rintro rfl
      exact row_ne h.rl hb (by decide) e
  · intro g e e2
    have : gg = g := by simpa [Value.ownBlock] using e
    subst this
    rcases hat with e3 | e3
    · exact h.ne gg e3 e2
    · have := (h.rs.lt gg e2).2
      omega

theorem appS (hb : W.heap[B]? = some (.cells #[vn, .slice a j cap', vl] 40 (0, 0))) (h : Row3 B vn (.slice a j cap') vl xs j1 j j3 W) (hx : xs[j]? = some x)
    (hblk : ∀ k, k < W.heap.size → (Value.slice a j cap').ownBlock ≠ some k → w1.heap[k]? = W.heap[k]?) (hk1 : KeptIn (· < B) w0 w1) (hat : (Value.slice a j cap').ownBlock = some gg ∨ gg = W.heap.size + 1)
    (hown : w1.ownsRow B 9 1 (.slice (some ⟨gg, 0, none⟩) (j + 1) cap) (j + 1) ((xs.take j).map strV ++ [strV x])) :
    At3 B w0 xs j1 (j + 1) j3 (w1.setCell ⟨B, 1, none⟩ (.slice (some ⟨gg, 0, none⟩) (j + 1) cap)) := by
  have hBW := (Array.getElem?_eq_some_iff.1 hb).1
  have hneB := row_ne h.rs hb (by decide)
  have hgB : gg ≠ B := by
    rintro rfl
    rcases hat with e | e
    · exact hneB e
    · omega
  refine ⟨vn, .slice (some ⟨gg, 0, none⟩) (j + 1) cap, vl, ?_, ⟨?_, ?_, ?_, ?_⟩, hk1.setCell (p := ⟨B, 1, none⟩) (Nat.lt_irrefl B) _⟩
  · rw [heap_setCell_same _ _ _ _ _ _ ((hblk B hBW hneB).trans hb)]
    rfl
  · refine row_block (row_block h.rn fun g e => hblk g (h.rn.lt g e).2 fun e2 => h.ne g e e2) fun g e => set_other ?_
    rintro rfl
    exact row_ne h.rn hb (by decide) e
  · refine row_block ?_ fun g e => set_other ?_
    · rw [take_map_succ xs j x hx]; exact hown
    · have : gg = g := by simpa [Value.ownBlock] using e
      show g ≠ B
      omega
  · refine row_block (row_block h.rl fun g e => hblk g (h.rl.lt g e).2 fun e2 => ?_) fun g e => set_other ?_
    · obtain ⟨cur, hc⟩ := own_str h.rs e2
      exact row_ne h.rl hc (by decide) e
    · rintro rfl
      exact row_ne h.rl hb (by decide) e
  · intro g e e2
    have : gg = g := by simpa [Value.ownBlock] using e2
    subst this
    rcases hat with e3 | e3
    · exact h.ne gg e e3
    · have := (h.rn.lt gg e).2
      omega

theorem appL {v' : Value} (hb : W.heap[B]? = some (.cells #[vn, vs, .slice a j cap'] 40 (0, 0))) (h : Row3 B vn vs (.slice a j cap') xs j1 j2 j W)
    (hblk : ∀ k, k < W.heap.size → (Value.slice a j cap').ownBlock ≠ some k → w1.heap[k]? = W.heap[k]?) (hk1 : KeptIn (· < B) w0 w1)
    (hown : w1.ownsRow B 4 1 v' (j + 1) (List.replicate j (.bool false) ++ [.bool false])) :
    At3 B w0 xs j1 j2 (j + 1) (w1.setCell ⟨B, 2, none⟩ v') := by
  have hBW := (Array.getElem?_eq_some_iff.1 hb).1
  have hneB := row_ne h.rl hb (by decide)
  have hb1 := (hblk B hBW hneB).trans hb
  have hgB := row_ne hown hb1 (by decide)
  refine ⟨vn, vs, v', ?_, ⟨?_, ?_, ?_, h.ne⟩, hk1.setCell (p := ⟨B, 2, none⟩) (Nat.lt_irrefl B) _⟩
  · rw [heap_setCell_same _ _ _ _ _ _ hb1]
    rfl
  · refine row_block (row_block h.rn fun g e => hblk g (h.rn.lt g e).2 fun e2 => ?_) fun g e => set_other ?_
    · obtain ⟨cur, hc⟩ := own_str h.rl e2
      exact row_ne h.rn hc (by decide) e
    · rintro rfl
      exact row_ne h.rn hb (by decide) e
  · refine row_block (row_block h.rs fun g e => hblk g (h.rs.lt g e).2 fun e2 => ?_) fun g e => set_other ?_
    · obtain ⟨cur, hc⟩ := own_str h.rl e2
      exact row_ne h.rs hc (by decide) e
    · rintro rfl
      exact row_ne h.rs hb (by decide) e
  · refine row_block ?_ fun g e => set_other ?_
    · rw [List.replicate_succ']; exact hown
    · rintro rfl
      exact hgB e

end

set_option maxHeartbeats 2000000 in
set_option maxRecDepth 100000 in
theorem r4Of (l : List UInt8) (n : Nat) (w : World) (hl : l.length ≤ 320) (hn : n = l.length / 16) :
    Calls Try.prog 9 #[.string ⟨l.toArray⟩] w fun e w' => ∃ u vn vs vl, e = .returned (.pointer (some ⟨u, 0, none⟩)) ∧ IsU w.heap.size u vn vs vl (secs l n) (secs l n) (List.replicate n false) w' ∧ KeptIn (· < w.heap.size) w w' := by
  obtain ⟨is, his, hs0, hs1, hs2⟩ := info_parts infoStr
  obtain ⟨ib, hib, hb0, hb1, hb2⟩ := info_parts infoBool
  have hl1 : (l.length : Int) ≤ 320 := by omega
  have HL : Hid (n = l.length / 16 ∧ l.length ≤ 320 ∧ (secs l n).length = n) := Lib.hid ⟨hn, hl, secs_length l n⟩
  obtain ⟨B, hB⟩ : ∃ B, w.heap.size = B := ⟨_, rfl⟩
  rw [hB]
  have HB := Lib.hid hB
  clear hl hn
  go_enter Try.func9, Try.ntmps9
  go_wp2_with fail
  have HJ0 : Hid (At3 B w (secs l n) 0 0 0 (w.alloc (.cells #[.slice none 0 0, .slice none 0 0, .slice none 0 0] 40))) :=
    Lib.hid ⟨_, _, _, by rw [← hB]; exact heap_alloc_new w _, ⟨⟨rfl, .inl ⟨rfl, rfl⟩⟩, ⟨rfl, .inl ⟨rfl, rfl⟩⟩, ⟨rfl, .inl ⟨rfl, rfl⟩⟩, fun g h => by cases h⟩, (KeptIn.refl _ w).alloc (fun k hk => by rw [hB]; exact hk) _⟩
  clear hB
  go_loopw [4] (fun c wr => ∃ (j : Nat) (W : World), W = wr ∧ j ≤ n ∧ c = .int .i64 ((16 * j : Nat) : Int) ∧ Hid (At3 B w (secs l n) j j j W)) (fun c _ => l.length + 16 - (RowKit.intOf c).toNat)
  case atStart => exact ⟨0, _, rfl, Nat.zero_le _, rfl, HJ0⟩
  case round =>
    obtain ⟨j, W, rfl, hj, rfl, HJ⟩ := hrel
    clear HJ0
    obtain ⟨vn, vs, vl, hb, hrow, hk⟩ := HJ.out
    obtain ⟨an, cn, rfl, _⟩ := row_shape hrow.rn
    have c0 : W.cell? ⟨B, 0, none⟩ = some (.slice an j cn) := by simp [World.cell?, hb]
    obtain ⟨k, hkk⟩ : ∃ k, 16 * j = k := ⟨_, rfl⟩
    rw [hkk]
    have hj20 : j ≤ 20 := by have := HL.out; omega
    have i0 : (0 : Int) ≤ (k : Int) := by omega
    have e1 : wrap64 ((k : Int) + 16) = ((k + 16 : Nat) : Int) := by unfold wrap64; omega
    obtain ⟨k2, hk2⟩ : ∃ k2, k + 16 = k2 := ⟨_, rfl⟩
    rw [hk2] at e1
    have e2 : IntKind.i64.wrap ((k : Int) + 16) = (k2 : Int) := by rw [IntKind.wrap_i64]; omega
    by_cases hlt : k2 ≤ l.length
    · have i1 : (k2 : Int) ≤ (l.length : Int) := by omega
      have i2 : (k : Int) ≤ (k2 : Int) := by omega
      have i3 : (j : Int) < 16384 := by omega
      have hex := extract_nth l j k k2 hkk.symm hk2.symm hlt
      have hjn : j < n := by have := HL.out; omega
      obtain ⟨x, hx⟩ : ∃ x, nth l j = x := ⟨_, rfl⟩
      rw [hx] at hex
      have HX : Hid ((secs l n)[j]? = some x) := Lib.hid (by rw [← hx]; simp [secs, hjn])
      have HK : Hid (16 * j = k ∧ k + 16 = k2) := Lib.hid ⟨hkk, hk2⟩
      clear hx hkk hk2
      go_upto_region 5 with fail
      go_cut [] from 7 to 58 (fun wx => Hid (At3 B w (secs l n) (j + 1) j j wx))
      case first =>
        have f0 : W.frozen? ⟨B, 0, none⟩ = false := by simp [World.frozen?, hb]
        have hrn := hrow.rn
        have hneB : (Value.slice an j cn).ownBlock ≠ some B := row_ne hrn hb (by decide)
        have hBW : B < W.heap.size := (Array.getElem?_eq_some_iff.1 hb).1
        have HB1 : Hid (∀ w1, ((W.alloc (.cells #[.string ⟨x.toArray⟩] 9)).drew).grownBy w1 (Value.slice an j cn).ownBlock → w1.cell? ⟨B, 0, none⟩ = some (.slice an j cn) ∧ w1.frozen? ⟨B, 0, none⟩ = false) := Lib.hid fun w1 hg => by
          have h1 := grown_block hg B hBW hneB
          exact ⟨(World.cell?_of_block (a := ⟨B, 0, none⟩) h1).trans c0, (World.frozen?_of_block (a := ⟨B, 0, none⟩) h1).trans f0⟩
        clear hneB
        go_wp2_with fail
        go_region_law (refine step_append_lies _ (by rfl) _ _ 37 (by rfl) B 9 is _ 1 16 Try.underlying37 his hs0 hs1 hs2 rfl (by omega) (.slice an j cn) j _ (by rfl) ((hrn.alloc _).drew) ⟨W.heap.size, 0, none⟩ 1 1 [.string ⟨x.toArray⟩] (by rfl) (by rfl) (World.news_of_block (cs := #[.string ⟨x.toArray⟩]) (t := 9) (fr := (0, 0)) (heap_alloc_new W _)) (by simp [Value.oneCell']) (by omega) (by unfold maxLen; omega) (by omega) (by simp; omega) (W.heap.size + 1) (by simp) ?_; intro gg cap w1 hown1 hgrow hat hlt1; obtain ⟨d0, df⟩ := HB1.out w1 hgrow)
        all_goals
          have HJ2 : Hid (At3 B w (secs l n) (j + 1) j j (w1.setCell ⟨B, 0, none⟩ (.slice (some ⟨gg, 0, none⟩) (j + 1) cap))) := Lib.hid (appN hb hrow HX.out (grown_block hgrow) ((hk.alloc (fun k hk => by rw [HB.out]; exact hk) _).drew.grown (fun k hk => by rw [HB.out]; exact hk) hgrow (fun g' hg' hlt' => by have := (hrn.lt g' hg').1; omega)) hat hown1)
          clear hown1 hgrow hat hb hrow hrn HB1 hk d0 df c0 f0
          go_wp2_with fail
          go_meet
          case rel => exact HJ2
      case rest =>
        clear c0 hb hrow hk HJ
        go_upto_region 6 with fail
        go_cut [] from 7 to 58 (fun wx => Hid (At3 B w (secs l n) (j + 1) (j + 1) j wx))
        case first =>
          obtain ⟨vn, vs, vl, hb, hrow, hk⟩ := hcut.out
          obtain ⟨an, cn, rfl, _⟩ := row_shape hrow.rs
          have c0 : wc.cell? ⟨B, 1, none⟩ = some (.slice an j cn) := by simp [World.cell?, hb]
          have f0 : wc.frozen? ⟨B, 1, none⟩ = false := by simp [World.frozen?, hb]
          have hrn := hrow.rs
          have hneB : (Value.slice an j cn).ownBlock ≠ some B := row_ne hrn hb (by decide)
          have hBW : B < wc.heap.size := (Array.getElem?_eq_some_iff.1 hb).1
          have HB1 : Hid (∀ w1, ((wc.alloc (.cells #[.string ⟨x.toArray⟩] 9)).drew).grownBy w1 (Value.slice an j cn).ownBlock → w1.cell? ⟨B, 1, none⟩ = some (.slice an j cn) ∧ w1.frozen? ⟨B, 1, none⟩ = false) := Lib.hid fun w1 hg => by
            have h1 := grown_block hg B hBW hneB
            exact ⟨(World.cell?_of_block (a := ⟨B, 1, none⟩) h1).trans c0, (World.frozen?_of_block (a := ⟨B, 1, none⟩) h1).trans f0⟩
          clear hneB
          go_wp2_with fail
          go_region_law (refine step_append_lies _ (by rfl) _ _ 37 (by rfl) B 9 is _ 1 16 Try.underlying37 his hs0 hs1 hs2 rfl (by omega) (.slice an j cn) j _ (by rfl) ((hrn.alloc _).drew) ⟨wc.heap.size, 0, none⟩ 1 1 [.string ⟨x.toArray⟩] (by rfl) (by rfl) (World.news_of_block (cs := #[.string ⟨x.toArray⟩]) (t := 9) (fr := (0, 0)) (heap_alloc_new wc _)) (by simp [Value.oneCell']) (by omega) (by unfold maxLen; omega) (by omega) (by simp; omega) (wc.heap.size + 1) (by simp) ?_; intro gg cap w1 hown1 hgrow hat hlt1; obtain ⟨d0, df⟩ := HB1.out w1 hgrow)
          all_goals
            have HJ2 : Hid (At3 B w (secs l n) (j + 1) (j + 1) j (w1.setCell ⟨B, 1, none⟩ (.slice (some ⟨gg, 0, none⟩) (j + 1) cap))) := Lib.hid (appS hb hrow HX.out (grown_block hgrow) ((hk.alloc (fun k hk => by rw [HB.out]; exact hk) _).drew.grown (fun k hk => by rw [HB.out]; exact hk) hgrow (fun g' hg' hlt' => by have := (hrn.lt g' hg').1; omega)) hat hown1)
            clear hown1 hgrow hat hb hrow hrn HB1 hk d0 df c0 f0
            go_wp2_with fail
            go_meet
            case rel => exact HJ2
        case rest =>
          obtain ⟨vn, vs, vl, hb, hrow, hk⟩ := hcut.out
          obtain ⟨al, cl, rfl, _⟩ := row_shape hrow.rl
          have c0 : wc.cell? ⟨B, 2, none⟩ = some (.slice al j cl) := by simp [World.cell?, hb]
          have f0 : wc.frozen? ⟨B, 2, none⟩ = false := by simp [World.frozen?, hb]
          have hrn := hrow.rl
          have hneB : (Value.slice al j cl).ownBlock ≠ some B := row_ne hrn hb (by decide)
          have hBW : B < wc.heap.size := (Array.getElem?_eq_some_iff.1 hb).1
          have HB1 : Hid (∀ w1, ((wc.alloc (.cells #[.bool false] 4))).grownBy w1 (Value.slice al j cl).ownBlock → w1.cell? ⟨B, 2, none⟩ = some (.slice al j cl) ∧ w1.frozen? ⟨B, 2, none⟩ = false) := Lib.hid fun w1 hg => by
            have h1 := grown_block' hg B hBW hneB
            exact ⟨(World.cell?_of_block (a := ⟨B, 2, none⟩) h1).trans c0, (World.frozen?_of_block (a := ⟨B, 2, none⟩) h1).trans f0⟩
          clear hneB
          go_wp2_with (at_builtin; refine wpList_append_own _ rfl _ _ 38 rfl B 4 ib (.bool false) 1 1 Try.underlying38 hib hb0 hb1 hb2 rfl (by omega) _ _ _ rfl (hrn.alloc _) ⟨wc.heap.size, 0, none⟩ 1 1 [.bool false] rfl rfl (cell_one_new _ _ _) (by simp [Value.oneCell']) (by unfold maxLen; omega) (by omega) (by simp; omega) ?_)
          intro v' w1 hown1 hgrow _
          obtain ⟨d0, df⟩ := HB1.out w1 hgrow
          obtain ⟨a', cap', rfl, _⟩ := row_shape hown1
          have HJ2 : Hid (At3 B w (secs l n) (j + 1) (j + 1) (j + 1) (w1.setCell ⟨B, 2, none⟩ (.slice a' (j + 1) cap'))) := Lib.hid (appL hb hrow (grown_block' hgrow) ((hk.alloc (fun k hk => by rw [HB.out]; exact hk) _).grown (fun k hk => by rw [HB.out]; exact hk) hgrow (fun g' hg' hlt' => by have := (hrn.lt g' hg').1; omega)) hown1)
          clear hown1 hgrow hb hrow hrn HB1 hk c0 f0
          go_wp2_with fail
          go_roundw
          case rel => exact ⟨j + 1, _, rfl, by omega, by have := HK.out; go_num, HJ2⟩
          case measure => have := HK.out; simp [RowKit.intOf]; omega
    · obtain rfl : j = n := by have := HL.out; omega
      have hlt' : (l.length : Int) < (k2 : Int) := by omega
      have HE := HJ
      clear hlt hb hrow hk
      go_wp2
      go_ret
      obtain ⟨vn, vs, vl, hb, hrow, hk⟩ := HE.out
      have hsl := HL.out.2.2
      have hrn := hrow.rn; have hrs := hrow.rs; have hrl := hrow.rl
      rw [List.take_of_length_le (by omega)] at hrn hrs
      refine ⟨B, vn, vs, vl, rfl, ⟨hb, Nat.le_refl _, ?_, ?_, ?_, rfl, ?_, hrow.ne⟩, hk⟩
      · rw [hsl]; exact hrn
      · rw [hsl]; exact hrs
      · simpa using hrl
      · simp [hsl]

end Go.Proofs.Ytbgkfeikfkbfmaa
