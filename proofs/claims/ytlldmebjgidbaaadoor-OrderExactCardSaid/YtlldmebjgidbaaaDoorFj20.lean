/- Order: fields of a line, whether there are any or none; what a line is. -/
import Derived.Test.YtlldmebjgidbaaaDoorMw20
set_option linter.unusedVariables false
set_option linter.unusedSimpArgs false
namespace Go.Proofs.YtlldmebjgidbaaaDoor
open Go.RowKit

theorem oFillI0 (g o m c : Nat) (W : World) :
    Calls Tryd.prog 29 #[.slice none 0 0, .slice (some ⟨g, o, none⟩) m c, .func (.func 17) #[] #[]] W fun e w' => e = .returned (.bool true) ∧ w' = W := by
  go_enter Tryd.func29, Tryd.ntmps29
  go_wp2_with fail
  go_loopw [12] (fun i wr => i = .int .i64 (0 : Int) ∧ wr = W) (fun _ _ => 0)
  case atStart => exact ⟨rfl, rfl⟩
  case round =>
    obtain ⟨rfl, rfl⟩ := hrel
    go_wp2_with fail
    go_ret
    exact ⟨rfl, rfl⟩
theorem oFillS0 (g o m c : Nat) (W : World) :
    Calls Tryd.prog 30 #[.slice none 0 0, .slice (some ⟨g, o, none⟩) m c, .func (.func 18) #[] #[]] W fun e w' => e = .returned (.bool true) ∧ w' = W := by
  go_enter Tryd.func30, Tryd.ntmps30
  go_wp2_with fail
  go_loopw [12] (fun i wr => i = .int .i64 (0 : Int) ∧ wr = W) (fun _ _ => 0)
  case atStart => exact ⟨rfl, rfl⟩
  case round =>
    obtain ⟨rfl, rfl⟩ := hrel
    go_wp2_with fail
    go_ret
    exact ⟨rfl, rfl⟩

/-- All blocks stand but the one of v. -/
def KeptV (v : Value) (W w' : World) : Prop := KeptIn (fun k => k < W.heap.size ∧ some k ≠ v.ownBlock) W w'

def FilQ {α : Type} (P : List α → World → Prop) (r : Option (List α)) (v : Value) (W : World) (e : Ending) (w' : World) : Prop :=
  match r with
  | none => e = .returned (.bool false) ∧ KeptV v W w'
  | some vs => e = .returned (.bool true) ∧ P vs w' ∧ KeptV v W w'

theorem mapO_len {α β : Type} {f : α → Option β} : ∀ {l : List α} {r : List β}, mapO f l = some r → r.length = l.length
  | [], r, h => by simp only [mapO, Option.some.injEq] at h; subst h; rfl
  | x :: l, r, h => by
    simp only [mapO] at h
    cases hx : f x with
    | none => rw [hx] at h; exact absurd h (by simp)
    | some y =>
      cases hl : mapO f l with
      | none => rw [hx, hl] at h; exact absurd h (by simp)
      | some ys =>
        rw [hx, hl] at h
        simp only [Option.some.injEq] at h
        subst h
        simp [mapO_len hl]

theorem fillN (v : Value) (ns : List Int) (B n g o m c : Nat) (ws : List (List UInt8)) (W : World) (hv : RowN v ns B W) (hn : ns.length = n) (hn3 : n ≤ 3) (hm : ws.length = m) (hnm : n ≤ m) (hm5 : m ≤ 5)
    (hR : RdS g o ws W) (hg : g < B) (hlen : ∀ t ∈ ws, t.length ≤ 1099511627776) :
    Calls Tryd.prog 29 #[v, .slice (some ⟨g, o, none⟩) m c, .func (.func 17) #[] #[]] W fun e w' => FilQ (fun vs w' => RowN v vs B w') (mapO numW (ws.take n)) v W e w' := by
  rcases hv with ⟨rfl, rfl⟩ | ⟨b, hb, rfl, hc⟩
  · subst hn
    refine (oFillI0 g o m c W).mono ?_
    rintro e w' ⟨rfl, rfl⟩
    exact ⟨rfl, .inl ⟨rfl, rfl⟩, .refl _ _⟩
  · rw [hn]
    refine (oFillI b n ns g o m c ws W hc hn hn3 hm hnm hm5 hR (by omega) hlen).mono ?_
    intro e w' h
    have hX : ∀ k, (k < W.heap.size ∧ some k ≠ (Value.slice (some ⟨b, 0, none⟩) n n).ownBlock) → (k < W.heap.size ∧ k ≠ b) := fun k hk => ⟨hk.1, fun e => hk.2 (by rw [e]; rfl)⟩
    cases hr : mapO numW (ws.take n) with
    | none =>
      rw [hr] at h
      exact ⟨h.1, h.2.mono hX⟩
    | some vs =>
      rw [hr] at h
      have hl : vs.length = n := by rw [mapO_len hr, List.length_take]; omega
      exact ⟨h.1, .inr ⟨b, hb, by rw [hl], h.2.1⟩, h.2.2.mono hX⟩

theorem fillT (v : Value) (ts : List (List UInt8)) (B n g o m c : Nat) (ws : List (List UInt8)) (W : World) (hv : RowT v ts B W) (hn : ts.length = n) (hn3 : n ≤ 3) (hm : ws.length = m) (hnm : n ≤ m) (hm5 : m ≤ 5)
    (hR : RdS g o ws W) (hg : g < B) (hlen : ∀ t ∈ ws, t.length ≤ 1099511627776) :
    Calls Tryd.prog 30 #[v, .slice (some ⟨g, o, none⟩) m c, .func (.func 18) #[] #[]] W fun e w' => FilQ (fun vs w' => RowT v vs B w') (mapO bytS (ws.take n)) v W e w' := by
  rcases hv with ⟨rfl, rfl⟩ | ⟨b, hb, rfl, hc⟩
  · subst hn
    refine (oFillS0 g o m c W).mono ?_
    rintro e w' ⟨rfl, rfl⟩
    exact ⟨rfl, .inl ⟨rfl, rfl⟩, .refl _ _⟩
  · rw [hn]
    refine (oFillS b n ts g o m c ws W hc hn hn3 hm hnm hm5 hR (by omega) hlen).mono ?_
    intro e w' h
    have hX : ∀ k, (k < W.heap.size ∧ some k ≠ (Value.slice (some ⟨b, 0, none⟩) n n).ownBlock) → (k < W.heap.size ∧ k ≠ b) := fun k hk => ⟨hk.1, fun e => hk.2 (by rw [e]; rfl)⟩
    cases hr : mapO bytS (ws.take n) with
    | none =>
      rw [hr] at h
      exact ⟨h.1, h.2.mono hX⟩
    | some vs =>
      rw [hr] at h
      have hl : vs.length = n := by rw [mapO_len hr, List.length_take]; omega
      exact ⟨h.1, .inr ⟨b, hb, by rw [hl], h.2.1⟩, h.2.2.mono hX⟩

/-- A row of texts stands where a row of numbers is written, and the other way round. -/
theorem RowT.keptN {v u : Value} {ts : List (List UInt8)} {ns : List Int} {B : Nat} {W w' : World} (h : RowT v ts B W) (hu : RowN u ns B W) (hk : KeptV u W w') : RowT v ts B w' := by
  rcases h with h | ⟨b, h1, h2, h3⟩
  · exact .inl h
  · refine .inr ⟨b, h1, h2, ?_⟩
    rw [hk.block b ⟨(Array.getElem?_eq_some_iff.1 h3).1, ?_⟩]
    · exact h3
    · rcases hu with ⟨_, rfl⟩ | ⟨b', _, rfl, h4⟩
      · simp [Value.ownBlock]
      · simp only [Value.ownBlock, ne_eq, Option.some.injEq]
        rintro rfl
        rw [h3] at h4
        simp at h4
theorem RowN.keptT {v u : Value} {ts : List (List UInt8)} {ns : List Int} {B : Nat} {W w' : World} (h : RowN v ns B W) (hu : RowT u ts B W) (hk : KeptV u W w') : RowN v ns B w' := by
  rcases h with h | ⟨b, h1, h2, h3⟩
  · exact .inl h
  · refine .inr ⟨b, h1, h2, ?_⟩
    rw [hk.block b ⟨(Array.getElem?_eq_some_iff.1 h3).1, ?_⟩]
    · exact h3
    · rcases hu with ⟨_, rfl⟩ | ⟨b', _, rfl, h4⟩
      · simp [Value.ownBlock]
      · simp only [Value.ownBlock, ne_eq, Option.some.injEq]
        rintro rfl
        rw [h3] at h4
        simp at h4
theorem KeptV.lowN {u : Value} {ns : List Int} {B : Nat} {W w' : World} (hu : RowN u ns B W) (hk : KeptV u W w') (hB : B ≤ W.heap.size) : KeptIn (· < B) W w' := by
  refine hk.mono fun k hk' => ⟨Nat.lt_of_lt_of_le hk' hB, ?_⟩
  rcases hu with ⟨_, rfl⟩ | ⟨b, hb, rfl, _⟩
  · simp [Value.ownBlock]
  · simp only [Value.ownBlock, ne_eq, Option.some.injEq]
    omega
theorem KeptV.lowT {u : Value} {ts : List (List UInt8)} {B : Nat} {W w' : World} (hu : RowT u ts B W) (hk : KeptV u W w') (hB : B ≤ W.heap.size) : KeptIn (· < B) W w' := by
  refine hk.mono fun k hk' => ⟨Nat.lt_of_lt_of_le hk' hB, ?_⟩
  rcases hu with ⟨_, rfl⟩ | ⟨b, hb, rfl, _⟩
  · simp [Value.ownBlock]
  · simp only [Value.ownBlock, ne_eq, Option.some.injEq]
    omega
theorem RdS.low {g o B : Nat} {ts : List (List UInt8)} {W w' : World} (h : RdS g o ts W) (hg : g < B) (hk : KeptIn (· < B) W w') : RdS g o ts w' := by
  intro j t ht
  have h1 := h j t ht
  unfold World.cell? at h1 ⊢
  rw [hk.block g hg]
  exact h1
theorem RdS.drop {g o : Nat} {ts : List (List UInt8)} {W : World} (h : RdS g o ts W) (n : Nat) : RdS g (o + n) (ts.drop n) W := by
  intro j t ht
  rw [List.getElem?_drop] at ht
  have := h (n + j) t ht
  rw [← Nat.add_assoc] at this
  exact this

/-- What Parse answers. -/
def prV (o : Option Od) : Value := match o with
  | none => .nilIface
  | some o => valO o
def prE (o : Option Od) : Int := match o with
  | none => 3
  | some _ => 0

theorem cn_ct (k : Nat) (h : k < 15) : cn k + ct k ≤ 3 := by
  have : ∀ k, k < 15 → cn k + ct k ≤ 3 := by decide
  exact this k h

theorem mapO_num {l : List (List UInt8)} : ∀ {r : List Int}, mapO numW l = some r → ∀ x ∈ r, -9223372036854775808 ≤ x ∧ x ≤ 9223372036854775807 := by
  induction l with
  | nil => intro r h x hx; simp only [mapO, Option.some.injEq] at h; subst h; simp at hx
  | cons t l ih =>
    intro r h x hx
    simp only [mapO] at h
    cases h1 : numW t with
    | none => rw [h1] at h; exact absurd h (by simp)
    | some y =>
      cases h2 : mapO numW l with
      | none => rw [h1, h2] at h; exact absurd h (by simp)
      | some ys =>
        rw [h1, h2] at h
        simp only [Option.some.injEq] at h
        subst h
        rcases List.mem_cons.1 hx with rfl | hx
        · exact ⟨((numP_iff _ _).1 h1).1, ((numP_iff _ _).1 h1).2.1⟩
        · exact ih h2 x hx

theorem parse_ok {k : Nat} {ns : List Int} {ts : List (List UInt8)} {w1 w2 : List (List UInt8)} (hk : k < 15) (h1 : mapO numW w1 = some ns) (h2 : mapO bytS w2 = some ts) (e1 : w1.length = cn k) (e2 : w2.length = ct k) (hlen : ∀ t ∈ ts, t.length ≤ 1099511627776) : (⟨k, ns, ts⟩ : Od).ok :=
  ⟨hk, by rw [mapO_len h1]; exact e1, by rw [mapO_len h2]; exact e2, mapO_num h1, hlen⟩

end Go.Proofs.YtlldmebjgidbaaaDoor
