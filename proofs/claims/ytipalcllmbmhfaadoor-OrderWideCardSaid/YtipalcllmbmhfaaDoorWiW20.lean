/- Order: OrderWide's walk. -/
import Derived.Test.YtipalcllmbmhfaaDoorSt20
set_option linter.unusedVariables false
set_option linter.unusedSimpArgs false
namespace Go.Proofs.YtipalcllmbmhfaaDoor
open Go.RowKit

def tkO (n : Int) : Od := ⟨10, [n], []⟩
theorem tkO_ok (n : Int) (h0 : -9223372036854775808 ≤ n) (h1 : n ≤ 9223372036854775807) : (tkO n).ok :=
  ⟨(by decide : 10 < 15), rfl, rfl, fun x hx => by
    have : x = n := by simpa [tkO] using hx
    omega, fun x hx => by simp [tkO] at hx⟩
theorem tkO_text (n : Int) : textL (tkO n) = [116, 105, 99, 107, 32] ++ Lib.itoa n := by
  unfold textL wdsO tkO
  simp only [List.map_cons, List.map_nil, List.append_nil]
  rw [Lib.join_cons]
  simp [Lib.joinTail, wordL]

/-- Characters, each told by its own or by the wide digit. -/
def toks (z : List (UInt8 × Bool)) : List UInt8 := z.flatMap fun x => if x.2 then [239, 188, UInt8.ofNat (x.1.toNat + 96)] else [x.1]

theorem pl_toks : ∀ z : List (UInt8 × Bool), (∀ x ∈ z, x.1.toNat ≠ 239 ∧ (x.2 = true → isDg x.1 = true)) → pl (toks z) = z.map (·.1)
  | [], _ => by simp [toks, pl_nil]
  | (c, b) :: z, h => by
    have ih := pl_toks z (fun x hx => h x (by simp [hx]))
    obtain ⟨h1, h2⟩ := h (c, b) (by simp)
    simp only at h1 h2
    cases b with
    | false =>
      have : toks ((c, false) :: z) = c :: toks z := by simp [toks]
      rw [this, pl_plain _ h1, ih]
      rfl
    | true =>
      have hg := of_decide_eq_true (h2 rfl)
      have : toks ((c, true) :: z) = 239 :: 188 :: UInt8.ofNat (c.toNat + 96) :: toks z := by simp [toks]
      have e : (UInt8.ofNat (c.toNat + 96)).toNat = c.toNat + 96 := by simp; omega
      rw [this, pl_wide1 _ _ (by rw [e]; omega), ih, e, Nat.add_sub_cancel]
      simp

theorem itoa_mem (n : Int) : ∀ c ∈ Lib.itoa n, c = 45 ∨ isDg c = true := by
  intro c hc
  unfold Lib.itoa at hc
  split at hc
  · rcases List.mem_cons.1 hc with h | h
    · exact Or.inl h
    · exact Or.inr (dec_dg _ c h)
  · exact Or.inr (dec_dg _ c hc)

theorem wds_one : ∀ s : List UInt8, (∀ x ∈ s, x ≠ 32) → wds s = [s]
  | [], _ => rfl
  | c :: s, h => by
    unfold wds
    rw [if_neg (h c (by simp)), wds_one s (fun x hx => h x (by simp [hx]))]
    rfl
theorem tick_parse (s : List UInt8) (n : Int) (h32 : ∀ x ∈ s, x ≠ 32) (hn : numP (pl s) = some n) : parseO ([116, 105, 99, 107, 32] ++ s) = some (tkO n) := by
  have hw : wds ([116, 105, 99, 107, 32] ++ s) = [[116, 105, 99, 107], s] := by
    simp [wds, cons1, wds_one s h32]
  have hk : kindOf [116, 105, 99, 107] = some 10 := by decide
  have h1 : numW s = some n := hn
  unfold parseO
  rw [hw]
  simp only [List.head?_cons, Option.bind_some, hk, List.tail_cons, List.length_cons, List.length_nil]
  rw [if_neg (by decide), show cn 10 = 1 from rfl]
  simp only [List.take_succ_cons, List.take_zero, List.drop_succ_cons, List.drop_zero, mapO, h1]
  rfl

theorem u8_wide (c : UInt8) (h : isDg c = true) : ((144 + (c.toNat : Int)) % 256 - 48) % 256 = (((UInt8.ofNat (c.toNat + 96)).toNat : Nat) : Int) := by
  have := of_decide_eq_true h
  have e : (UInt8.ofNat (c.toNat + 96)).toNat = c.toNat + 96 := by simp; omega
  rw [e]
  omega

set_option maxRecDepth 1000000 in
set_option maxHeartbeats 4000000 in
theorem orderWideW (n mask : Int) (w : World) (hn : (Lit.int .i64 n).wf = true) (hm : (Lit.int .i64 mask).wf = true) (T : Tb20 w) :
    Calls Tryd.prog 6 #[.int .i64 n, .int .i64 mask] w fun e w' => e = .returned (.bool true) ∧ KeptIn (· < w.heap.size) w w' := by
  have bn := bounds_i64 hn
  have hok := Lib.hid (tkO_ok n bn.1 (by omega))
  have C1 : Hid (∀ V, Tb20 V → Calls Tryd.prog 12 #[.iface 58 (.agg #[.int .i64 n])] V fun e w' => e = .returned (.tuple #[.string ⟨([116, 105, 99, 107, 32] ++ Lib.itoa n).toArray⟩, .int .i64 0]) ∧ KeptIn (· < V.heap.size) V w') := Lib.hid fun V TV => by
    have := oText (tkO n) hok.out V TV
    rw [show txtR (tkO n) = textL (tkO n) from rfl, tkO_text] at this
    exact this
  have hbd := itoa_len n bn.1 (by omega)
  have hmem := Lib.hid (itoa_mem n)
  have hnp := Lib.hid (numP_itoa n bn.1 (by omega))
  have hdp : 1 ≤ (Lib.itoa n).length := by
    cases h : Lib.itoa n with
    | nil =>
      have := hnp.out
      rw [h] at this
      exact absurd this (by simp [numP])
    | cons => simp
  obtain ⟨d, hd⟩ : ∃ d, Lib.itoa n = d := ⟨_, rfl⟩
  rw [hd] at C1 hbd hmem hnp hdp
  replace T := Lib.hid T
  clear bn hn hm
  go_enter Tryd.func6, Tryd.ntmps6
  go_wp2_with fail
  refine (awake20 w T.out).mono ?_
  rintro e W1 ⟨rfl, hK1⟩
  replace hK1 := Lib.hid hK1
  go_wp2_with fail
  refine (C1.out W1 (T.out.kept hK1.out)).mono ?_
  rintro e W2 ⟨rfl, hK2⟩
  have HK2 := Lib.hid (hK1.out.trans (hK2.mono fun k hk => Nat.lt_of_lt_of_le hk hK1.out.size))
  clear C1 hK2 hK1
  have hex : ({ data := (116 :: 105 :: 99 :: 107 :: 32 :: d).toArray } : ByteArray).extract 5 (d.length + 1 + 1 + 1 + 1 + 1) = ⟨d.toArray⟩ := ex_of _ d _ _ (by simp)
  go_wp2_with fail
  replace hd := Lib.hid hd
  replace hdp := Lib.hid hdp
  go_loopw [7, 9] (fun v i wr => ∃ (j : Nat) (V : World) (z : List (UInt8 × Bool)), V = wr ∧ v = .string ⟨(toks z).toArray⟩ ∧ i = .int .i64 (j : Int) ∧ Hid (j ≤ d.length ∧ KeptIn (· < w.heap.size) w V ∧ z.map (·.1) = d.take j ∧ (∀ x ∈ z, x.1.toNat ≠ 239 ∧ (x.2 = true → isDg x.1 = true)) ∧ (toks z).length ≤ 3 * j)) (fun _ i _ => d.length - (RowKit.intOf i).toNat)
  case atStart => exact ⟨0, _, [], rfl, rfl, rfl, Nat.zero_le _, HK2.out, rfl, by simp, by simp [toks]⟩
  case round =>
    obtain ⟨j, V, z, rfl, rfl, rfl, H⟩ := hrel
    obtain ⟨hj, hK, hz, hx, hl⟩ := H.out
    clear H HK2
    by_cases hp : j < d.length
    · obtain ⟨c, hc⟩ : ∃ c, d[j]? = some c := ⟨_, List.getElem?_eq_getElem hp⟩
      have hbx := str_byte d j c hc
      have hct := ex_one d j c hc
      have d1 : decide ((j : Int) < (d.length : Int)) = true := decide_eq_true (by omega)
      have d2 : (j : Int) < (d.length : Int) := by omega
      have d3 : (0 : Int) ≤ (j : Int) := by omega
      have d4 : decide (j < d.length) = true := decide_eq_true hp
      have hw1 := wrap_succ j (by omega)
      have hls : (toks z).length ≤ 1000 := by omega
      obtain ⟨s, hs⟩ : ∃ s, toks z = s := ⟨_, rfl⟩
      rw [hs] at hls ⊢
      replace hs := Lib.hid hs
      have hcm := Lib.hid (hmem.out c (List.mem_of_getElem? hc))
      have hnx : Hid (d.take (j + 1) = d.take j ++ [c]) := Lib.hid (by rw [List.take_add_one, hc]; rfl)
      replace hc := Lib.hid hc
      replace hK := Lib.hid hK
      replace hz := Lib.hid hz
      replace hx := Lib.hid hx
      replace hl := Lib.hid hl
      replace hp := Lib.hid hp
      by_cases h45 : c.toNat = 45
      · have b1 : ((c.toNat : Int) == 45) = true := beq_iff_eq.2 (by omega)
        have b2 : ((c.toNat : Int) != 45) = false := by simp [h45]
        replace h45 := Lib.hid h45
        go_wp2_with fail
        go_roundw
        case rel =>
          refine ⟨j + 1, _, z ++ [(c, false)], rfl, ?_, by first | rfl | exact congrArg (Value.int .i64) hw1, hp.out, hK.out, ?_, ?_, ?_⟩
          · rw [show toks (z ++ [(c, false)]) = s ++ [c] by rw [← hs.out]; simp [toks]]
            first | rfl | exact congrArg Value.string (app_of s [c])
          · rw [hnx.out, List.map_append, hz.out]
            rfl
          · intro x h
            rcases List.mem_append.1 h with h | h
            · exact hx.out x h
            · rw [List.mem_singleton.1 h]
              exact ⟨by rcases hcm.out with e | e; rw [e]; decide; have := of_decide_eq_true e; simp only; omega, fun h => absurd h (by simp)⟩
          · rw [show toks (z ++ [(c, false)]) = toks z ++ [c] by simp [toks], List.length_append]
            have := hl.out
            simp
            omega
        case measure => first | exact ms_step hp.out rfl | exact ms_step hp.out hw1
      · have b1 : ((c.toNat : Int) == 45) = false := beq_eq_false_iff_ne.2 (by omega)
        have b2 : ((c.toNat : Int) != 45) = true := bne_iff_ne.2 (by omega)
        have hdg : Hid (isDg c = true) := Lib.hid (hcm.out.resolve_left (fun e => h45 (by rw [e]; rfl)))
        have hb := u8_wide c hdg.out
        obtain ⟨y, hy⟩ : ∃ y, UInt8.ofNat (c.toNat + 96) = y := ⟨_, rfl⟩
        rw [hy] at hb
        have hcv : (convert 59 9 (.slice (some ⟨V.heap.size, 0, none⟩) 3 3)).run Tryd.prog (V.alloc (.cells #[.int .u8 239, .int .u8 188, .int .u8 y.toNat] 5)) = .ok (.string ⟨#[239, 188, y]⟩) (V.alloc (.cells #[.int .u8 239, .int .u8 188, .int .u8 y.toNat] 5)) := conv_3 239 188 y V
        replace h45 := Lib.hid h45
        replace hy := Lib.hid hy
        by_cases hbit : (bits .and .u64 (IntKind.u64.wrap mask / 2 ^ j) 1 == 1) = true
        · go_wp2_with fail
          go_roundw
          case rel =>
            refine ⟨j + 1, _, z ++ [(c, true)], rfl, ?_, by first | rfl | exact congrArg (Value.int .i64) hw1, hp.out, hK.out.alloc (fun _ h => h) _, ?_, ?_, ?_⟩
            · rw [show toks (z ++ [(c, true)]) = s ++ [239, 188, y] by rw [← hs.out, ← hy.out]; simp [toks]]
              first | rfl | exact congrArg Value.string (app_of s [239, 188, y])
            · rw [hnx.out, List.map_append, hz.out]
              rfl
            · intro x h
              rcases List.mem_append.1 h with h | h
              · exact hx.out x h
              · rw [List.mem_singleton.1 h]
                exact ⟨by have := of_decide_eq_true hdg.out; simp only; omega, fun _ => hdg.out⟩
            · rw [show toks (z ++ [(c, true)]) = toks z ++ [239, 188, UInt8.ofNat (c.toNat + 96)] by simp [toks], List.length_append]
              have := hl.out
              simp
              omega
          case measure => first | exact ms_step hp.out rfl | exact ms_step hp.out hw1
        · have hbit' : (bits .and .u64 (IntKind.u64.wrap mask / 2 ^ j) 1 == 1) = false := by simpa using hbit
          clear hbit
          go_wp2_with fail
          go_roundw
          case rel =>
            refine ⟨j + 1, _, z ++ [(c, false)], rfl, ?_, by first | rfl | exact congrArg (Value.int .i64) hw1, hp.out, hK.out, ?_, ?_, ?_⟩
            · rw [show toks (z ++ [(c, false)]) = s ++ [c] by rw [← hs.out]; simp [toks]]
              first | rfl | exact congrArg Value.string (app_of s [c])
            · rw [hnx.out, List.map_append, hz.out]
              rfl
            · intro x h
              rcases List.mem_append.1 h with h | h
              · exact hx.out x h
              · rw [List.mem_singleton.1 h]
                exact ⟨by rcases hcm.out with e | e; rw [e]; decide; have := of_decide_eq_true e; simp only; omega, fun h => absurd h (by simp)⟩
            · rw [show toks (z ++ [(c, false)]) = toks z ++ [c] by simp [toks], List.length_append]
              have := hl.out
              simp
              omega
          case measure => first | exact ms_step hp.out rfl | exact ms_step hp.out hw1
    · obtain rfl : j = d.length := by omega
      have d1 : decide ((d.length : Int) < (d.length : Int)) = false := decide_eq_false (by omega)
      rw [List.take_length] at hz
      obtain ⟨s, hs⟩ : ∃ s, toks z = s := ⟨_, rfl⟩
      have hpl : pl s = d := by rw [← hs, pl_toks z hx, hz]
      rw [hs] at hl ⊢
      have hls : s.length ≤ 60 := by omega
      have hnum : numP (pl s) = some n := by rw [hpl]; exact hnp.out
      have h32 : ∀ x ∈ s, x ≠ 32 := by
        rw [← hs]
        intro x h e
        subst e
        unfold toks at h
        obtain ⟨y, hy, h⟩ := List.mem_flatMap.1 h
        have h1 := hmem.out y.1 (by rw [← hz]; exact List.mem_map_of_mem hy)
        have h3 := hx y hy
        split at h
        · rename_i hb
          have h4 := of_decide_eq_true (h3.2 hb)
          have e : (UInt8.ofNat (y.1.toNat + 96)).toNat = y.1.toNat + 96 := by simp; omega
          rcases List.mem_cons.1 h with h | h
          · exact absurd h (by decide)
          · rcases List.mem_cons.1 h with h | h
            · exact absurd h (by decide)
            · have h5 := congrArg UInt8.toNat (List.mem_singleton.1 h)
              rw [e] at h5
              simp at h5
        · have h5 := List.mem_singleton.1 h
          rcases h1 with e | e
          · rw [e] at h5; exact absurd h5 (by decide)
          · rw [← h5] at e; exact absurd e (by decide)
      have hpar : parseO ([116, 105, 99, 107, 32] ++ s) = some (tkO n) := tick_parse s n h32 hnum
      have C1 := oNumber s (by omega) V
      rw [hnum] at C1
      replace C1 := Lib.hid C1
      have TV := Lib.hid (T.out.kept hK)
      have C2 : Hid (∀ V, Tb20 V → Calls Tryd.prog 18 #[.string ⟨(116 :: 105 :: 99 :: 107 :: 32 :: s).toArray⟩] V fun e w' => e = .returned (.tuple #[.iface 58 (.agg #[.int .i64 n]), .int .i64 0]) ∧ KeptIn (· < V.heap.size) V w') := Lib.hid fun V TV => by
        have := oParse ([116, 105, 99, 107, 32] ++ s) (by simp; omega) V TV
        rw [hpar] at this
        exact this
      have C3 : Hid (∀ V, Tb20 V → Calls Tryd.prog 24 #[.iface 58 (.agg #[.int .i64 n]), .iface 58 (.agg #[.int .i64 n])] V fun e w' => e = .returned (.bool true) ∧ KeptIn (· < V.heap.size) V w') := Lib.hid fun V TV => by
        have := oAlike (tkO n) (tkO n) hok.out hok.out rfl rfl V TV
        rw [show (textL (tkO n) == textL (tkO n)) = true by simp] at this
        exact this
      have b1 : (n == n) = true := by simp
      replace hK := Lib.hid hK
      clear hz hx hl hpl hs hnum h32 hpar hp hj hex hmem hnp
      go_wp2_with fail
      refine C1.out.mono ?_
      rintro e V1 ⟨rfl, hK1⟩
      have HK1 := Lib.hid (hK.out.trans (hK1.mono fun k hk => Nat.lt_of_lt_of_le hk hK.out.size))
      clear C1 hK1
      go_wp2_with fail
      refine (C2.out V1 (T.out.kept HK1.out)).mono ?_
      rintro e V2 ⟨rfl, hK2⟩
      have HK2 := Lib.hid (HK1.out.trans (hK2.mono fun k hk => Nat.lt_of_lt_of_le hk HK1.out.size))
      clear C2 hK2
      go_wp2_with fail
      refine (C3.out V2 (T.out.kept HK2.out)).mono ?_
      rintro e V3 ⟨rfl, hK3⟩
      have HK3 := Lib.hid (HK2.out.trans (hK3.mono fun k hk => Nat.lt_of_lt_of_le hk HK2.out.size))
      clear C3 hK3
      go_wp2_with fail
      go_ret
      exact ⟨rfl, HK3.out⟩

end Go.Proofs.YtipalcllmbmhfaaDoor
