import Derived.Test.YtkgjmejgkffbdaaGreatDoorShelf
import Derived.Test.YtkgjmejgkffbdaaGreatDoorM1
import Derived.WalkKit
import Derived.WalkSpells
import Derived.WalkLawsBesides
import Derived.RegionTactic
import Derived.Outline
import Derived.Lib.Hide
/- strings.Builder's methods over this program, with a frame that keeps any set of blocks that the builder does not own. -/
set_option linter.unusedVariables false
namespace Go.Proofs.YtkgjmejgkffbdaaGreatDoor
open Go.RowKit

/-- What a builder at block b is that holds the bytes l: v its buffer. -/
def IsBV (b : Nat) (v : Value) (l : List UInt8) (w : World) : Prop :=
  ∃ p, (p = .pointer none ∨ p = .pointer (some ⟨b, 0, none⟩)) ∧ w.heap[b]? = some (.cells #[p, v] 121 (0, 0)) ∧
    w.ownsRowF 0 5 1 v l.length (Lib.byteCells l) ∧ v.ownBlock ≠ some b ∧ (v = .slice none 0 0 ↔ l = [])

/-- A builder at block b that holds the bytes l; none of its memory lies in X. -/
def IsB (X : Nat → Prop) (b : Nat) (l : List UInt8) (w : World) : Prop :=
  ¬ X b ∧ ∃ v, IsBV b v l w ∧ ∀ g, v.ownBlock = some g → ¬ X g

theorem IsBV.kept {X : Nat → Prop} {b : Nat} {v : Value} {l : List UInt8} {w w' : World} (h : IsBV b v l w) (hk : KeptIn X w w') (hb : X b) (hv : ∀ g, v.ownBlock = some g → X g) : IsBV b v l w' := by
  obtain ⟨p, hp, hbk, hown, hne, hnil⟩ := h
  refine ⟨p, hp, by rw [hk.block b hb]; exact hbk, ⟨hown.1, ?_⟩, hne, hnil⟩
  rcases hown.2 with h1 | ⟨g, cap, cur, fz, rfl, h1, h2, h3⟩
  · exact .inl h1
  · exact .inr ⟨g, cap, cur, fz, rfl, h1, by rw [hk.block g (hv g rfl)]; exact h2, h3⟩

theorem IsB.lt {X : Nat → Prop} {b : Nat} {l : List UInt8} {w : World} (h : IsB X b l w) : b < w.heap.size := by
  obtain ⟨_, v, ⟨p, _, hbk, _⟩, _⟩ := h
  exact (Array.getElem?_eq_some_iff.1 hbk).1

/-- Where all that is there stands, a builder is one still. -/
theorem IsB.old {X : Nat → Prop} {b : Nat} {l : List UInt8} {w w' : World} (h : IsB X b l w) (hk : KeptIn (· < w.heap.size) w w') : IsB X b l w' := by
  have hlt := h.lt
  obtain ⟨hX, v, hv, hg⟩ := h
  refine ⟨hX, v, hv.kept hk hlt ?_, hg⟩
  obtain ⟨p, hp, hbk, hown, _⟩ := hv
  exact fun g e => (hown.lt g e).2

/-- A store into a block of another type leaves a builder as it is. -/
theorem IsB.setCell {X : Nat → Prop} {b a o : Nat} {l : List UInt8} {w : World} {cs : Array Value} {T : TypeId} {fr : Nat × Nat} (h : IsB X b l w) (ha : w.heap[a]? = some (.cells cs T fr)) (h1 : T ≠ 121) (h2 : T ≠ 5) (x : Value) :
    IsB X b l (w.setCell ⟨a, o, none⟩ x) := by
  obtain ⟨hX, v, hv, hg⟩ := h
  refine ⟨hX, v, hv.kept (X := (· ≠ a)) ((KeptIn.refl _ _).setCell (by simp) _) ?_ ?_, hg⟩
  · rintro rfl
    obtain ⟨p, hp, hbk, _⟩ := hv
    rw [ha] at hbk
    simp only [Option.some.injEq, Obj.cells.injEq] at hbk
    exact h1 hbk.2.1
  · rintro g e rfl
    obtain ⟨p, hp, hbk, hown, _⟩ := hv
    exact Lib.ownBlock_neF hown ha h2 e

theorem IsB.fresh (X : Nat → Prop) (w : World) (hX : ∀ k, X k → k < w.heap.size) : IsB X w.heap.size [] (w.alloc (.cells #[.pointer none, .slice none 0 0] 121)) := by
  refine ⟨fun h => Nat.lt_irrefl _ (hX _ h), .slice none 0 0, ⟨.pointer none, .inl rfl, heap_alloc_new w _, ⟨rfl, .inl ⟨rfl, rfl⟩⟩, by simp [Value.ownBlock], by simp⟩, by simp [Value.ownBlock]⟩

theorem bLen (X : Nat → Prop) (b : Nat) (l : List UInt8) (w : World) (h : IsB X b l w) :
    Calls Tryz.prog 73 #[.pointer (some ⟨b, 0, none⟩)] w fun e w' => e = .returned (.int .i64 l.length) ∧ w = w' := by
  obtain ⟨hX, v, ⟨p, hp, hbk, hown, hne, hnil⟩, hg⟩ := h
  have : Lib.IsBuilderF 121 5 0 b (Lib.byteCells l) w := by
    rcases hp with rfl | rfl
    · exact .inl ⟨Nat.zero_le _, v, hbk, by rw [Lib.byteCells_length]; exact hown, hne⟩
    · exact .inr ⟨Nat.zero_le _, v, hbk, by rw [Lib.byteCells_length]; exact hown, hne⟩
  refine (Tryz.Builder_Len_f 0 b (Lib.byteCells l) w this).mono ?_
  rintro e w' ⟨he, h1⟩
  rw [Lib.byteCells_length] at he
  exact ⟨he, h1.symm⟩

theorem bCheck (b : Nat) (v : Value) (l : List UInt8) (w : World) (h : IsBV b v l w) :
    Calls Tryz.prog 87 #[.pointer (some ⟨b, 0, none⟩)] w fun e w' => e = .returned (.tuple #[]) ∧ w'.heap[b]? = some (.cells #[.pointer (some ⟨b, 0, none⟩), v] 121 (0, 0)) ∧ KeptIn (· ≠ b) w w' := by
  obtain ⟨p, hp, hbk, hown, hne, hnil⟩ := h
  rcases hp with rfl | rfl
  · refine (Any.Builder_copyCheck_fresh (ρ := Tryz.lays105_ren) { Tryz.lays105 with } Tryz.Builder_Extra_105.toX72 b w (by simp [World.cell?, hbk]) (by simp [World.shape?, hbk]; rfl) (by simp [World.frozen?, hbk])).mono ?_
    rintro e w' ⟨rfl, rfl⟩
    exact ⟨rfl, by simp [World.setCell, Array.getElem?_modify, hbk], (KeptIn.refl _ _).setCell (by simp) _⟩
  · refine (Any.Builder_copyCheck_used (ρ := Tryz.lays105_ren) { Tryz.lays105 with } Tryz.Builder_Extra_105.toX72 b w (by simp [World.cell?, hbk])).mono ?_
    rintro e w' ⟨rfl, rfl⟩
    exact ⟨rfl, hbk, .refl _ _⟩

/-- 'append(buf, s...)': where the bytes lie behind it: in the same row, or in a new one. -/
theorem run_append_where (w : World) (t u ty e : TypeId) (i : TypeInfo) (ht : Tryz.prog.underlying t = some (.slice e)) (hu : Tryz.prog.underlying u = some .string) (hi : Tryz.prog.info? e = some i) (hz : i.zero = some (.int .u8 0))
    (hsize : i.size = 1) (hby : i.bytes = 1) (v : Value) (n : Nat) (xs : List Value) (hown : w.ownsRowF 0 e 1 v n xs) (s : ByteArray) (hlen : n + s.size ≤ 140737488355328) :
    ∃ v' w', (Builtin.append_ #[t, u] ty #[v, .string s]).run Tryz.prog w = .ok v' w' ∧ w'.ownsRowF 0 e 1 v' (n + s.size) (xs ++ Lib.strCells s) ∧ w.grownBy w' v.ownBlock ∧
      (v' = .slice none 0 0 ↔ v = .slice none 0 0 ∧ s.size = 0) ∧ ∀ g, v'.ownBlock = some g → v.ownBlock = some g ∨ w.heap.size ≤ g := by
  have h63 : n + s.size ≤ maxLen := by unfold maxLen; omega
  obtain ⟨v', w', h1, h2, h3, h4⟩ := Lib.run_append_own_stringF (P := Tryz.prog) w 0 t u ty e i ht hu hi hz hsize hby v n xs hown s h63 hlen (Nat.zero_le _)
  refine ⟨v', w', h1, h2, h3, h4, ?_⟩
  rcases hown.2 with ⟨rfl, rfl⟩ | ⟨g0, cap, cur, fz, rfl, hbg, hg, hfz, hnc, hcm, hcs, htake⟩
  · obtain ⟨v2, w2, k1, k2, _⟩ := Lib.run_append_own_stringF (P := Tryz.prog) w w.heap.size t u ty e i ht hu hi hz hsize hby (.slice none 0 0) 0 xs ⟨hown.1, .inl ⟨rfl, rfl⟩⟩ s h63 hlen (Nat.le_refl _)
    rw [h1] at k1
    cases k1
    exact fun g hg => .inr (k2.lt g hg).1
  · by_cases hroom : n + s.size ≤ cap
    · have k1 := Lib.run_append_room_stringF (P := Tryz.prog) w t u ty e i ht hu hi hsize g0 n cap cur fz hg (by simpa using hfz) s hroom (by simp only [Nat.mul_one] at hcs; omega)
      rw [h1] at k1
      cases k1
      exact fun g hg => .inl hg
    · have hxl : xs.length = n := by simpa using hown.1
      have holds : ∀ j u, xs[j]? = some u → w.cell? ((⟨g0, 0, none⟩ : Addr).add j) = some u := hown.cells (g := g0) rfl
      have k1 := Lib.run_append_grow_string (P := Tryz.prog) w t u ty e i (.int .u8 0) ht hu hi hz ⟨g0, 0, none⟩ n cap xs (by rw [hsize]; simpa using hxl) holds s (by omega) (by unfold maxLen at hcm h63; omega) (by rw [hby]; exact growslice_fits (by unfold maxLen at hcm h63; omega) (by omega))
      rw [h1] at k1
      cases k1
      exact fun g hg => .inr (by simp [Value.ownBlock] at hg; omega)

/-- The operation, for the walk. -/
theorem wpList_append_where {ops : Array Oper} {rest : List Oper} {o : Oper} {a : Act} {Q : Exit → Act → World → Prop} {w : World} (hgd : o.guard = none) (sl x : Operand) (t u : TypeId)
    (ho : o.op = .call { callee := .builtin .append, args := #[sl, x], argTypes := #[t, u] })
    (e : TypeId) (i : TypeInfo) (ht : Tryz.prog.underlying t = some (.slice e)) (hu : Tryz.prog.underlying u = some .string) (hi : Tryz.prog.info? e = some i) (hz : i.zero = some (.int .u8 0)) (hsize : i.size = 1) (hby : i.bytes = 1)
    (v : Value) (n : Nat) (xs : List Value) (hs : a.eval sl = v) (hown : w.ownsRowF 0 e 1 v n xs) (s : ByteArray) (hx : a.eval x = .string s) (hlen : n + s.size ≤ 140737488355328)
    (h : ∀ v' w', w'.ownsRowF 0 e 1 v' (n + s.size) (xs ++ Lib.strCells s) → w.grownBy w' v.ownBlock → (v' = .slice none 0 0 ↔ v = .slice none 0 0 ∧ s.size = 0) → (∀ g, v'.ownBlock = some g → v.ownBlock = some g ∨ w.heap.size ≤ g) →
      wpList Tryz.prog ops Q rest (a.put o.dst v') w') : wpList Tryz.prog ops Q (o :: rest) a w := by
  refine wpList_plain hgd fun K hK => ?_
  obtain ⟨v', w', hr, h2, h3, h4, h5⟩ := run_append_where w t u o.type e i ht hu hi hz hsize hby v n xs hown s hlen
  unfold Oper.wp execOp
  simp only [ho, resolve, invoke, builtin, Sem.run_bind, Sem.run_pure, Result.andThen_ok, List.map_toArray, List.map_cons, List.map_nil, hs, hx, hr]
  exact hK _ _ (h v' w' h2 h3 h4 h5)

set_option maxHeartbeats 1000000 in
theorem bWrite (X : Nat → Prop) (b : Nat) (l : List UInt8) (s : ByteArray) (w : World) (h : IsB X b l w) (hX : ∀ k, X k → k < w.heap.size) (hlen : l.length + s.size ≤ 140737488355328) :
    Calls Tryz.prog 72 #[.pointer (some ⟨b, 0, none⟩), .string s] w fun e w' => e = .returned (.tuple #[.int .i64 s.size, .nilIface]) ∧ IsB X b (l ++ s.data.toList) w' ∧ KeptIn X w w' := by
  obtain ⟨hXb, v, hv, hg⟩ := h
  have hv0 := hv
  obtain ⟨p, hp, hbk, hown, hne, hnil⟩ := hv0
  have hlt : b < w.heap.size := (Array.getElem?_eq_some_iff.1 hbk).1
  obtain ⟨i0, hi, hz0, hz1, hz2⟩ := info_parts Tryz.Builder_Extra_105.infoByte
  go_enter Tryz.func72, Tryz.ntmps72
  go_wp2_with (go_at_call 87; refine (bCheck b v l _ hv).mono ?_)
  rintro e w1 ⟨rfl, hb1, hk1⟩
  have hown1 : w1.ownsRowF 0 5 1 v l.length (Lib.byteCells l) := by
    refine ⟨hown.1, ?_⟩
    rcases hown.2 with h1 | ⟨g, cap, cur, fz, rfl, h1, h2, h3⟩
    · exact .inl h1
    · exact .inr ⟨g, cap, cur, fz, rfl, h1, by rw [hk1.block g (fun e => hne (by simp [Value.ownBlock, e]))]; exact h2, h3⟩
  have c1 : w1.cell? ⟨b, 1, none⟩ = some v := by simp [World.cell?, hb1]
  have hsz : w.heap.size ≤ w1.heap.size := hk1.size
  go_wp2_with (at_builtin; refine wpList_append_where rfl _ _ 77 9 rfl 5 i0 (by kernel_rfl) (by kernel_rfl) hi hz0 hz1 hz2 _ _ _ rfl hown1 s rfl hlen ?_)
  intro v' w2 hown' hgrow hv' hwh
  have hlt1 : b < w1.heap.size := (Array.getElem?_eq_some_iff.1 hb1).1
  have hb2 : w2.heap[b]? = some (.cells #[.pointer (some ⟨b, 0, none⟩), v] 121 (0, 0)) := by
    rw [hgrow.block b hlt1 (fun e => hne e.symm)]
    exact hb1
  have d1 : w2.cell? ⟨b, 1, none⟩ = some v := by simp [World.cell?, hb2]
  have f1 : w2.frozen? ⟨b, 1, none⟩ = false := by simp [World.frozen?, hb2]
  have hlen' : (l ++ s.data.toList).length = l.length + s.size := by rw [List.length_append, Lib.size_eq]
  have hown3 : w2.ownsRowF 0 5 1 v' (l ++ s.data.toList).length (Lib.byteCells (l ++ s.data.toList)) := by
    rw [hlen', Lib.byteCells_append, ← Lib.strCells_eq]; exact hown'
  have hne' : v'.ownBlock ≠ some b := Lib.ownBlock_neF hown3 hb2 (by decide)
  have hg' : ∀ g, v'.ownBlock = some g → ¬ X g := by
    intro g e hx
    rcases hwh g e with e | e
    · exact hg g e hx
    · exact Nat.lt_irrefl _ (Nat.lt_of_lt_of_le (hX g hx) (Nat.le_trans hsz e))
  have hnil' : v' = .slice none 0 0 ↔ l ++ s.data.toList = [] := by
    have es : s = ByteArray.empty ↔ s.data.toList = [] :=
      ⟨fun h => by rw [h]; rfl, fun h => by obtain ⟨d⟩ := s; obtain rfl : d = #[] := by simpa using h
                                            rfl⟩
    have hv2 : v' = .slice none 0 0 ↔ l = [] ∧ s = ByteArray.empty := hv'
    rw [hv2, es]
    exact List.append_eq_nil_iff.symm
  have Hnil := Lib.hid hnil'; clear hnil' hv' hnil
  obtain ⟨ao, n', cap, rfl⟩ : ∃ ao n' cap, v' = .slice ao n' cap := by
    rcases hown'.2 with ⟨hv, _⟩ | ⟨g, cap, cur, fz, hv, _⟩
    · exact ⟨_, _, _, hv⟩
    · exact ⟨_, _, _, hv⟩
  clear hown hown1 hown' hlen' hi hz0 hz1 hz2 hp hbk hv
  go_wp2
  go_ret2
  have hk2 : KeptIn X w w2 := ((hk1.mono (fun k hk e => hXb (e ▸ hk))).grown hX hgrow hg)
  refine ⟨rfl, ⟨hXb, _, ⟨_, .inr rfl, ?_, ?_, hne', Hnil.out⟩, hg'⟩, hk2.setCell hXb _⟩
  · simp [World.setCell, Array.getElem?_modify, hb2]
  · refine hown3.kept (row := some b) ⟨rfl, rfl, rfl, by simp [World.setCell], fun k _ hk => Below.heap_setCell _ _ _ _ (fun e => hk (by simp [e]))⟩ (Or.inr hne')

set_option maxHeartbeats 1000000 in
set_option maxRecDepth 100000 in
theorem bStringNil (X : Nat → Prop) (b : Nat) (w : World) (h : IsB X b [] w) :
    Calls Tryz.prog 60 #[.pointer (some ⟨b, 0, none⟩)] w fun e w' => e = .returned (.string ⟨#[]⟩) ∧ IsB X b [] w' ∧ KeptIn X w w' := by
  obtain ⟨hXb, v, ⟨p, hp, hbk, hown, hne, hnil⟩, hg⟩ := h
  obtain rfl := hnil.2 rfl
  have hA : ∀ w', (∃ n, w' = w.drewN n) → IsB X b [] w' ∧ KeptIn X w w' := by
    rintro w' ⟨n, rfl⟩
    exact ⟨⟨hXb, _, ⟨p, hp, hbk, hown, hne, hnil⟩, hg⟩, (KeptIn.refl _ _).drewN n⟩
  have HA := Lib.hid hA; clear hA hp hown hne hnil hg hXb
  have c1 : w.cell? ⟨b, 1, none⟩ = some (.slice none 0 0) := by simp [World.cell?, hbk]
  have hSD : (Builtin.unsafeSliceData_ #[77] 148 #[.slice none 0 0]).run Tryz.prog w.drew = .ok (.pointer none) w.drew := rfl
  have hUS := Lib.run_unsafeString_none (P := Tryz.prog) w.drew 148 3 9 none
  clear hbk
  go_enter Tryz.func60, Tryz.ntmps60
  go_wp2
  go_region
  all_goals (go_wp2; go_ret; exact ⟨rfl, HA.out _ ⟨1, rfl⟩⟩)

set_option maxHeartbeats 1000000 in
set_option maxRecDepth 100000 in
theorem bStringSome (X : Nat → Prop) (b : Nat) (l : List UInt8) (w : World) (h : IsB X b l w) (h0 : l ≠ []) :
    Calls Tryz.prog 60 #[.pointer (some ⟨b, 0, none⟩)] w fun e w' => e = .returned (.string ⟨l.toArray⟩) ∧ IsB X b l w' ∧ KeptIn X w w' := by
  obtain ⟨hXb, v, ⟨p, hp, hbk, hown, hne, hnil⟩, hg⟩ := h
  have hl0 : l.length ≠ 0 := by simpa using h0
  obtain ⟨g, cap, cur, fz, rfl, hbg, hgk, hfz, hnc, hcm, hcs, htake⟩ : ∃ g cap cur fz, v = .slice (some ⟨g, 0, none⟩) l.length cap ∧ 0 ≤ g ∧ w.heap[g]? = some (.cells cur 5 fz) ∧ fz.2 ≤ l.length * 1 ∧ l.length ≤ cap ∧ cap ≤ maxLen ∧ cur.size = cap * 1 ∧ cur.toList.take (l.length * 1) = Lib.byteCells l := by
    rcases hown.2 with ⟨_, hz⟩ | ⟨g, cap, cur, fz, hv, r⟩
    · exact absurd hz hl0
    · exact ⟨g, cap, cur, fz, hv, r⟩
  have c1 : w.cell? ⟨b, 1, none⟩ = some (.slice (some ⟨g, 0, none⟩) l.length cap) := by simp [World.cell?, hbk]
  have hgb : g ≠ b := fun e => hne (by simp [Value.ownBlock, e])
  have hfin : ∀ w', w' = w.drew.freeze ⟨g, 0, none⟩ l.length → IsB X b l w' ∧ KeptIn X w w' := by
    rintro _ rfl
    have hF : Lib.BuilderAtF 121 5 0 b p (Lib.byteCells l) w.drew := ⟨Nat.zero_le _, _, hbk, by rw [Lib.byteCells_length]; exact hown, hne⟩
    have hF2 := hF.froze (g := g) (cap := cap) (by rw [Lib.byteCells_length]; exact c1)
    rw [Lib.byteCells_length] at hF2
    obtain ⟨_, v2, hb2, hown2, hne2⟩ := hF2
    have hb3 : (w.drew.freeze ⟨g, 0, none⟩ l.length).heap[b]? = w.heap[b]? := ((KeptIn.refl (· ≠ g) w).drew.freeze (p := ⟨g, 0, none⟩) (by simp) _).block b (Ne.symm hgb)
    rw [hb3, hbk] at hb2
    simp only [Option.some.injEq, Obj.cells.injEq, Array.mk.injEq, List.cons.injEq, and_true, true_and] at hb2
    subst hb2
    rw [Lib.byteCells_length] at hown2
    exact ⟨⟨hXb, _, ⟨p, hp, by rw [hb3]; exact hbk, hown2, hne, hnil⟩, hg⟩, (KeptIn.refl X w).drew.freeze (hg g rfl) _⟩
  have HF := Lib.hid hfin; clear hfin
  have hSD : (Builtin.unsafeSliceData_ #[77] 148 #[.slice (some ⟨g, 0, none⟩) l.length cap]).run Tryz.prog w.drew = .ok (.pointer (some ⟨g, 0, none⟩)) w.drew :=
    Lib.run_unsafeSliceData_row _ _ _ _ _ _ (by omega)
  have hUS : (Builtin.unsafeString_ #[148, 3] 9 #[.pointer (some ⟨g, 0, none⟩), .int .i64 l.length]).run Tryz.prog w.drew = .ok (.string ⟨l.toArray⟩) (w.drew.freeze ⟨g, 0, none⟩ l.length) := by
    refine Lib.run_unsafeString_row w.drew 148 3 9 5 (by kernel_rfl) (by kernel_rfl) g cur.size (by have hg' : w.drew.heap[g]? = some (.cells cur 5 fz) := hgk; simp [World.shape?, hg']) l h0 (by omega) (by unfold maxLen at hcm; omega) ?_
    intro j x hx
    have := hown.cells (g := g) rfl j (.int .u8 x.toNat) (by simp [Lib.byteCells, hx])
    exact this
  clear hp hown hne hnil hg hXb hbk hfz hnc hcm hcs htake hl0 h0 hgb hgk
  go_enter Tryz.func60, Tryz.ntmps60
  go_wp2
  go_region
  all_goals (go_wp2; go_ret; exact ⟨rfl, HF.out _ rfl⟩)

theorem bString (X : Nat → Prop) (b : Nat) (l : List UInt8) (w : World) (h : IsB X b l w) :
    Calls Tryz.prog 60 #[.pointer (some ⟨b, 0, none⟩)] w fun e w' => e = .returned (.string ⟨l.toArray⟩) ∧ IsB X b l w' ∧ KeptIn X w w' := by
  cases l with
  | nil => exact bStringNil X b w h
  | cons x r => exact bStringSome X b (x :: r) w h (by simp)

end Go.Proofs.YtkgjmejgkffbdaaGreatDoor
