/- Who is promoted, who is demoted: picked, ofLevel, up, down. -/
import Derived.Test.YtjhmcfhbjfjmkaaTi16
set_option linter.unusedVariables false
namespace Go.Proofs.Ytjhmcfhbjfjmkaa
open Go.RowKit

attribute [local go_sem high] run_min2f run_max2f

/-- A boxed chunk. -/
def BoxI (T : TypeId) (y : Nat) (x : It16) (W : World) : Prop := W.heap[y]? = some (.cells #[.int .i64 x.ch, .int .i64 x.he, .int .i64 x.ti, .bool x.pn, .bool x.bu] T (0, 0))
theorem BoxI.new (w : World) (x : It16) (T : TypeId) : BoxI T w.heap.size x (w.alloc (.cells #[.int .i64 x.ch, .int .i64 x.he, .int .i64 x.ti, .bool x.pn, .bool x.bu] T)) := heap_alloc_new w _
theorem BoxI.at {T : TypeId} {y : Nat} {x : It16} {W : World} (h : BoxI T y x W) : At16 W y 0 x :=
  ⟨(cell_of_row _ _ 0 _ _ _ h).trans rfl, (cell_of_row _ _ 1 _ _ _ h).trans rfl, (cell_of_row _ _ 2 _ _ _ h).trans rfl, (cell_of_row _ _ 3 _ _ _ h).trans rfl, (cell_of_row _ _ 4 _ _ _ h).trans rfl⟩
theorem BoxI.lt {T : TypeId} {y : Nat} {x : It16} {W : World} (h : BoxI T y x W) : y < W.heap.size := (Array.getElem?_eq_some_iff.1 h).1
theorem BoxI.old {T : TypeId} {y : Nat} {x : It16} {W W' : World} (h : BoxI T y x W) (hk : KeptIn (· < W.heap.size) W W') : BoxI T y x W' := (hk.block y h.lt).trans h
/-- A chunk is stored to it. -/
def st16 (V : World) (y : Nat) (x : It16) : World := ((((V.setCell ⟨y, 0, none⟩ (.int .i64 x.ch)).setCell ⟨y, 1, none⟩ (.int .i64 x.he)).setCell ⟨y, 2, none⟩ (.int .i64 x.ti)).setCell ⟨y, 3, none⟩ (.bool x.pn)).setCell ⟨y, 4, none⟩ (.bool x.bu)
theorem BoxI.store {T : TypeId} {y : Nat} {x0 : It16} {V : World} (h : BoxI T y x0 V) (x : It16) : BoxI T y x (st16 V y x) := by
  have h1 : (V.setCell ⟨y, 0, none⟩ (.int .i64 x.ch)).heap[y]? = _ := heap_setCell_same _ _ _ _ _ _ h
  have h2 : ((V.setCell ⟨y, 0, none⟩ (.int .i64 x.ch)).setCell ⟨y, 1, none⟩ (.int .i64 x.he)).heap[y]? = _ := heap_setCell_same _ _ _ _ _ _ h1
  have h3 : (((V.setCell ⟨y, 0, none⟩ (.int .i64 x.ch)).setCell ⟨y, 1, none⟩ (.int .i64 x.he)).setCell ⟨y, 2, none⟩ (.int .i64 x.ti)).heap[y]? = _ := heap_setCell_same _ _ _ _ _ _ h2
  have h4 : ((((V.setCell ⟨y, 0, none⟩ (.int .i64 x.ch)).setCell ⟨y, 1, none⟩ (.int .i64 x.he)).setCell ⟨y, 2, none⟩ (.int .i64 x.ti)).setCell ⟨y, 3, none⟩ (.bool x.pn)).heap[y]? = _ := heap_setCell_same _ _ _ _ _ _ h3
  have h5 : (st16 V y x).heap[y]? = _ := heap_setCell_same _ _ _ _ _ _ h4
  exact h5.trans rfl
theorem KeptIn.st16 {X : Nat → Prop} {a b : World} (h : KeptIn X a b) {y : Nat} (hy : ¬ X y) (x : It16) : KeptIn X a (st16 b y x) :=
  ((((h.setCell (p := ⟨y, 0, none⟩) hy _).setCell (p := ⟨y, 1, none⟩) hy _).setCell (p := ⟨y, 2, none⟩) hy _).setCell (p := ⟨y, 3, none⟩) hy _).setCell (p := ⟨y, 4, none⟩) hy _
theorem BoxI.free {T : TypeId} {y : Nat} {x : It16} {V : World} (h : BoxI T y x V) (i : Nat) : V.frozen? ⟨y, i, none⟩ = false := by simp [World.frozen?, show V.heap[y]? = _ from h]
theorem results_item {fn : Func} {p : Tmp} (h : fn.results = #[.cell p 35]) (tmps : Array Value) (w : World) (y : Nat) (x : It16)
    (hp : tmps.getD p undef = .pointer (some ⟨y, 0, none⟩)) (hb : BoxI 35 y x w) : (results fn tmps).run Try.prog w = .ok (itV x) w := by
  have hr := run_loadVar_row (P := Try.prog) w y 35 35 _ _ _ hb Try.underlying35 rfl (by kernel_rfl)
  have hp' : tmps[p]?.getD undef = .pointer (some ⟨y, 0, none⟩) := by simpa using hp
  simp [results, h, hp', asAddr, hr, itV]
/-- What a function answers that hands back a chunk. -/
def ItS (w : World) (x : It16) (e : Ending) (w' : World) : Prop := e = .returned (itV x) ∧ KeptIn (· < w.heap.size) w w'

theorem pk_walk (n : Int) (m : Nat) (hm : 0 < m) (hb : m ≤ 1000) : (IntKind.u64.wrap n).tmod (IntKind.u64.wrap (m : Int)) = (((n % 18446744073709551616).toNat % m : Nat) : Int) := by
  have e : IntKind.u64.wrap (m : Int) = (m : Int) := by rw [IntKind.wrap_u64]; omega
  rw [e, IntKind.wrap_u64, Int.tmod_eq_emod_of_nonneg (Int.emod_nonneg _ (by decide)), Int.natCast_emod, Int.toNat_of_nonneg (Int.emod_nonneg _ (by decide))]

set_option maxRecDepth 100000 in
theorem rkPicked (a : Option Addr) (cap : Nat) (l : List It16) (n : Int) (w : World) (h : IsI w a l) (hl : l.length ≤ 1000) :
    Calls Try.prog 27 #[.slice a l.length cap, .int .i64 n] w (ItS w (pk l n)) := by
  obtain ⟨m, hm⟩ : ∃ m, l.length = m := ⟨_, rfl⟩
  have H := Lib.hid h
  rw [hm] at hl ⊢
  by_cases h0 : m = 0
  · subst h0
    obtain rfl : l = [] := List.length_eq_zero_iff.1 hm
    rw [pk_nil]
    have hnew := BoxI.new w it0 35
    have hko := keptNew w (.cells #[.int .i64 0, .int .i64 0, .int .i64 0, .bool false, .bool false] 35)
    have HN := Lib.hid (And.intro hnew hko)
    clear hnew hko h hm hl H
    go_enter Try.func27, Try.ntmps27
    go_wp2_with fail
    refine bodyPost_ret (results_item rfl _ _ _ it0 rfl HN.out.1) rfl ?_
    exact ⟨rfl, HN.out.2⟩
  · have hq := pk_walk n m (by omega) hl
    have hlt := Nat.mod_lt (n % 18446744073709551616).toNat (show 0 < m by omega)
    have hpk : pk l n = l.getD ((n % 18446744073709551616).toNat % m) it0 := by unfold pk; rw [hm]
    obtain ⟨q, hqq⟩ : ∃ q, (n % 18446744073709551616).toNat % m = q := ⟨_, rfl⟩
    rw [hqq] at hq hlt hpk
    have hql : q < l.length := by omega
    rw [List.getD_eq_getElem?_getD, List.getElem?_eq_getElem hql, Option.getD_some] at hpk
    have hk0 := keptNew w (.cells #[.int .i64 0, .int .i64 0, .int .i64 0, .bool false, .bool false] 35)
    obtain ⟨b, off, rfl, hb, hc⟩ := (H.out.old hk0).cells (by omega)
    have hcq := hc q hql
    rw [hpk]
    obtain ⟨x, hx⟩ : ∃ x, l[q] = x := ⟨_, rfl⟩
    rw [hx] at hcq ⊢
    obtain ⟨c1, c2, c3, c4, c5⟩ := hcq
    have HN := Lib.hid (And.intro (BoxI.new w x 35) (keptNew w (.cells #[.int .i64 x.ch, .int .i64 x.he, .int .i64 x.ti, .bool x.pn, .bool x.bu] 35)))
    have z0 : ((m : Int) == 0) = false := by rw [beq_eq_false_iff_ne]; omega
    have d0 : (0 : Int) ≤ (q : Int) := by omega
    have d1 : (q : Int) < (m : Int) := by omega
    have z1 : ¬ IntKind.u64.wrap (m : Int) = 0 := by rw [IntKind.wrap_u64]; omega
    have z2 : (IntKind.u64.wrap (m : Int) == 0) = false := by rw [beq_eq_false_iff_ne]; exact z1
    clear hc hb hk0 hx hpk hql hqq h hm hl h0 hlt H
    go_enter Try.func27, Try.ntmps27
    go_wp2_with fail
    refine bodyPost_ret (results_item rfl _ _ _ x rfl HN.out.1) rfl ?_
    exact ⟨rfl, HN.out.2⟩

theorem RowI.mono {T : TypeId} {W : World} {B B' : Nat} {v : Value} {L : List It16} (h : RowI T W B v L) (hB : B' ≤ B) : RowI T W B' v L := by
  refine ⟨h.1, ?_⟩
  rcases h.2 with h1 | ⟨g, cap, cur, e, hg, r⟩
  · exact .inl h1
  · exact .inr ⟨g, cap, cur, e, Nat.le_trans hB hg, r⟩
theorem KeptIn.on16 {a b c : World} (h : KeptIn (· < a.heap.size) a b) (k : KeptIn (· < b.heap.size) b c) : KeptIn (· < a.heap.size) a c := h.trans (k.mono fun _ hk => Nat.lt_of_lt_of_le hk h.size)
theorem RwS.up {T : TypeId} {w W V : World} {L : List It16} {e : Ending} (h : RwS T W L e V) (hk : KeptIn (· < w.heap.size) w W) : RwS T w L e V := by
  obtain ⟨a, cap, e1, h1, h2⟩ := h
  exact ⟨a, cap, e1, h1.mono hk.size, hk.on16 h2⟩

set_option maxRecDepth 100000 in
theorem rkOfLevel (k : Nat) (a : Option Addr) (cap : Nat) (l : List It16) (w : World) (h : IsI w a l) (hl : l.length ≤ 1000) :
    Calls Try.prog 28 #[.slice a l.length cap, .int .i64 (k : Int)] w (RwS 35 w (atL k l)) := by
  have hk := keptNew w (.cells #[.int .i64 (k : Int)] 3)
  have hn : (w.alloc (.cells #[.int .i64 (k : Int)] 3)).cell? ⟨w.heap.size, 0, none⟩ = some (.int .i64 (k : Int)) := (cell_of_row _ _ 0 _ _ _ (heap_alloc_new w (.cells #[.int .i64 (k : Int)] 3))).trans rfl
  obtain ⟨W, hW⟩ : ∃ W, w.alloc (.cells #[.int .i64 (k : Int)] 3) = W := ⟨_, rfl⟩
  obtain ⟨y, hy⟩ : ∃ y, w.heap.size = y := ⟨_, rfl⟩
  rw [hW, hy] at hn
  have hyW : y < W.heap.size := by rw [← hW, World.size_alloc, hy]; exact Nat.lt_succ_self y
  rw [hW] at hk
  have C := Lib.hid (rkThose (fun x => lv x.he == k) 30 #[.pointer (some ⟨y, 0, none⟩)] (.inr (.inr (.inr ⟨y, rfl, rfl⟩))) a cap l W (h.old hk) hl
    fun x hx V hV => rkOfL x hx k y V ((World.cell?_of_block (a := ⟨y, 0, none⟩) (hV.block y hyW)).trans hn) (Nat.lt_of_lt_of_le hyW hV.size))
  have HK := Lib.hid hk
  have HW := Lib.hid hW
  have HY := Lib.hid hy
  obtain ⟨m, hm⟩ : ∃ m, l.length = m := ⟨_, rfl⟩
  rw [hm] at C ⊢
  clear hk hn hW hy hyW h hl hm
  go_enter Try.func28, Try.ntmps28
  go_wp2_with fail
  rw [HW.out]
  simp only [HY.out]
  refine C.out.mono ?_
  rintro e V hR
  have hR2 := RwS.up hR HK.out
  obtain ⟨a2, cap2, rfl, h2, h3⟩ := hR2
  have HE : Hid (RwS 35 w (atL k l) (.returned (.slice a2 (l.filter fun x => lv x.he == k).length cap2)) V) := Lib.hid ⟨a2, cap2, rfl, h2, h3⟩
  clear C HK hR h2 h3
  go_wp2_with fail
  go_ret
  exact HE.out

end Go.Proofs.Ytjhmcfhbjfjmkaa
