/- The reference of layer 4 (tierceref04): Settle. -/
import Derived.Test.YtbgkfeikfkbfmaaRef4c
set_option linter.unusedVariables false
namespace Go.Proofs.Ytbgkfeikfkbfmaa
open Go.RowKit

theorem flS_same (F X : List (List UInt8)) (j : Nat) (x : List UInt8) (h1 : F[j]? = some x) (h2 : X[j]? = some x) : flS F X j = flS F X (j + 1) := by
  have hl := (List.getElem?_eq_some_iff.1 h2).1
  have := flS_succ F X j x h1 hl
  rw [← this]
  have hf := (List.getElem?_eq_some_iff.1 h1).1
  have hj : (flS F X j)[j]? = some x := by
    unfold flS
    rw [List.getElem?_append_right (by rw [List.length_take]; omega), List.length_take, Nat.min_eq_left (by omega), Nat.sub_self, List.getElem?_drop, Nat.add_zero]
    exact h2
  obtain ⟨hlt, he⟩ := List.getElem?_eq_some_iff.1 hj
  rw [← he, List.set_getElem_self]

theorem flS_at (F X : List (List UInt8)) (j : Nat) (h : j ≤ F.length) : (flS F X j)[j]? = X[j]? := by
  unfold flS
  rw [List.getElem?_append_right (by rw [List.length_take]; omega), List.length_take, Nat.min_eq_left h, Nat.sub_self, List.getElem?_drop, Nat.add_zero]
theorem flL_at (Ls : List Bool) (j : Nat) : (flL Ls j)[j]? = Ls[j]? := by
  unfold flL
  rw [List.getElem?_append_right (by simp), List.length_replicate, Nat.sub_self, List.getElem?_drop, Nat.add_zero]

theorem bit_val (l : List UInt8) (c : Nat) (h0 : 0 < l.length) (hlt' : c / 8 % l.length < (⟨l.toArray⟩ : ByteArray).size) :
    bits BinOp.and IntKind.u8 ((((⟨l.toArray⟩ : ByteArray)[c / 8 % l.length]'hlt').toNat : Int) / 2 ^ (c % 8)) 1 = if keepBit l c then 1 else 0 := by
  have hlt : c / 8 % l.length < l.length := Nat.mod_lt _ h0
  have hb : ((⟨l.toArray⟩ : ByteArray)[c / 8 % l.length]'hlt') = l[c / 8 % l.length]'hlt := rfl
  rw [hb]
  have hx : (((l[c / 8 % l.length]'hlt).toNat : Nat) : Int) / 2 ^ (c % 8) = (((l[c / 8 % l.length]'hlt).toNat / 2 ^ (c % 8) : Nat) : Int) := by simp
  have hlt2 : (l[c / 8 % l.length]'hlt).toNat / 2 ^ (c % 8) < 256 := Nat.lt_of_le_of_lt (Nat.div_le_self _ _) (UInt8.toNat_lt _)
  have h1 := u8_and_nat ((l[c / 8 % l.length]'hlt).toNat / 2 ^ (c % 8)) 1 hlt2 (by decide)
  rw [Nat.and_one_is_mod] at h1
  have hie : l.isEmpty = false := by cases l with
    | nil => simp at h0
    | cons => rfl
  rw [hx, show (1 : Int) = ((1 : Nat) : Int) from rfl, h1]
  unfold keepBit
  rw [hie, List.getD_eq_getElem?_getD, List.getElem?_eq_getElem hlt]
  simp only [Option.getD_some, Bool.not_false, Bool.true_and, beq_iff_eq]
  split <;> omega




set_option maxHeartbeats 1000000 in
set_option maxRecDepth 100000 in
theorem r4Settle (B u : Nat) (vn vs vl : Value) (Nw Sf F : List (List UInt8)) (Ls : List Bool) (l : List UInt8) (w : World) (h : IsU B u vn vs vl Nw Sf Ls w) (hm : Nw.length ≤ 16384) (hF : F.length = Nw.length) (hl : l.length ≤ maxLen)
    (hfin : ∀ i, i < Nw.length → F[i]? = if Ls.getD i false = true then (if keepBit l (trues Ls i).length = true then Nw[i]? else Sf[i]?) else Sf[i]?) (hsame : ∀ i, i < Nw.length → Ls.getD i false = false → Nw[i]? = Sf[i]?) :
    Calls Try.prog 30 #[.pointer (some ⟨u, 0, none⟩), .string ⟨l.toArray⟩] w fun e w' => e = .returned (.tuple #[]) ∧ IsU B u vn vs vl F F (List.replicate Nw.length false) w' ∧ KeptIn (Not3 vn vs vl) w w' := by
  have hlen1 : (l.length : Int) ≤ 9223372036854775807 := by unfold maxLen at hl; omega
  obtain ⟨n, hn⟩ : ∃ n, Nw.length = n := ⟨_, rfl⟩
  have hls := h.ls; have hll := h.ll
  obtain ⟨an, cn, rfl, _⟩ := row_shape h.rn
  obtain ⟨asf, cs, rfl, _⟩ := row_shape h.rs
  obtain ⟨al, cl, rfl, _⟩ := row_shape h.rl
  have HN : Hid (Nw.length = n ∧ Sf.length = n ∧ Ls.length = n ∧ n ≤ 16384 ∧ F.length = n) := Lib.hid (by omega)
  have HJ0 : Hid (IsU B u (.slice an n cn) (.slice asf n cs) (.slice al n cl) (flS F Nw 0) (flS F Sf 0) (flL Ls 0) w ∧ KeptIn (Not3 (.slice an n cn) (.slice asf n cs) (.slice al n cl)) w w) := Lib.hid ⟨by
    rw [HN.out.1, HN.out.2.1, HN.out.2.2.1] at h
    exact h, .refl _ _⟩
  have hnI : (n : Int) ≤ 16384 := by omega
  have HFIN := Lib.hid hfin; have HSAME := Lib.hid hsame
  rw [hls, hll, hn]
  rw [hn] at HFIN HSAME
  clear h hls hll hn hm hfin hsame hF hl
  go_enter Try.func30, Try.ntmps30
  go_wp2_with fail
  go_loopw [4, 5] (fun k c wr => ∃ (j : Nat) (W : World), W = wr ∧ j ≤ n ∧ c = .int .i64 j ∧ k = .int .i64 (trues Ls j).length ∧ Hid (IsU B u (.slice an n cn) (.slice asf n cs) (.slice al n cl) (flS F Nw j) (flS F Sf j) (flL Ls j) W ∧ KeptIn (Not3 (.slice an n cn) (.slice asf n cs) (.slice al n cl)) w W)) (fun _ c _ => n - (RowKit.intOf c).toNat)
  case atStart => exact ⟨0, _, rfl, Nat.zero_le _, rfl, rfl, HJ0⟩
  case round =>
    obtain ⟨j, W, rfl, hj, rfl, rfl, HJ⟩ := hrel
    clear HJ0
    have c0 := HJ.out.1.c0; have c1 := HJ.out.1.c1; have c2 := HJ.out.1.c2
    have hcb := trues_length Ls j
    obtain ⟨c, hc⟩ : ∃ c, (trues Ls j).length = c := ⟨_, rfl⟩
    have hts := congrArg List.length (trues_succ Ls j)
    have hfin := HFIN.out j
    rw [hc] at hcb hfin ⊢
    by_cases hlt : j < n
    · have i0 : (0 : Int) ≤ (j : Int) := by omega
      have i1 : (j : Int) < (n : Int) := by omega
      have hN := HN.out
      have hNl : (flS F Nw j).length = n := by rw [flS_length _ _ _ (by omega) (by omega)]; omega
      have hSl : (flS F Sf j).length = n := by rw [flS_length _ _ _ (by omega) (by omega)]; omega
      have hLl : (flL Ls j).length = n := by rw [flL_length _ _ (by omega)]; omega
      obtain ⟨gn, cn', e1, _, _, _, _, hcn, hfn⟩ := row_at HJ.out.1.rn (by omega)
      obtain ⟨gs, cs', e2, _, _, _, _, hcs, hfs⟩ := row_at HJ.out.1.rs (by omega)
      obtain ⟨gl, cl', e3, _, _, _, _, hcl, hfl⟩ := row_at HJ.out.1.rl (by omega)
      rw [hNl] at e1; rw [hSl] at e2; rw [hLl] at e3
      simp only [Value.slice.injEq, true_and] at e1 e2 e3
      obtain ⟨rfl, rfl⟩ := e1; obtain ⟨rfl, rfl⟩ := e2; obtain ⟨rfl, rfl⟩ := e3
      obtain ⟨x, hxe⟩ : ∃ x, Nw[j]? = some x := ⟨_, List.getElem?_eq_getElem (by omega)⟩
      obtain ⟨z, hze⟩ : ∃ z, Sf[j]? = some z := ⟨_, List.getElem?_eq_getElem (by omega)⟩
      obtain ⟨b, hbe⟩ : ∃ b, Ls[j]? = some b := ⟨_, List.getElem?_eq_getElem (by omega)⟩
      have hx := hcn j (strV x) (by rw [List.getElem?_map, flS_at F Nw j (by omega), hxe]; rfl)
      have hz := hcs j (strV z) (by rw [List.getElem?_map, flS_at F Sf j (by omega), hze]; rfl)
      have hyL := hcl j (.bool b) (by rw [List.getElem?_map, flL_at, hbe]; rfl)
      have fyS := hfs j; have fyN := hfn j; have fyL := hfl j
      have hyS := hz; have hyN := hx
      unfold strV at hx hz hyS hyN
      have hbd : Ls.getD j false = b := by rw [List.getD_eq_getElem?_getD, hbe]; rfl
      rw [hbd] at hts hfin
      have hsm := HSAME.out j hlt
      rw [hbd] at hsm
      have hfin := hfin hlt
      have HXN := Lib.hid hxe; have HXS := Lib.hid hze
      clear hcn hcs hcl hfs hfn hfl hxe hze hbe hNl hSl hLl hN hbd
      have HF := Lib.hid True.intro
      cases b with
      | false =>
        rw [if_neg (by simp)] at hfin hts
        have hxz : x = z := by have := hsm rfl; rw [HXN.out, HXS.out] at this; exact Option.some.inj this
        have hL2 : flL Ls j = flL Ls (j + 1) := by
          have hjl : j < Ls.length := by have := HN.out; omega
          have hb : Ls[j] = false := by
            have := hyL
            rcases hh : Ls[j] with _ | _
            · rfl
            · exfalso
              have h1 := row_at HJ.out.1.rl (by have := HN.out; rw [flL_length _ _ (by omega)]; omega)
              obtain ⟨g', c', e, _, _, _, _, hcell, _⟩ := h1
              simp only [Value.slice.injEq, Option.some.injEq, Addr.mk.injEq, and_true] at e
              have h2 := hcell j (.bool true) (by rw [List.getElem?_map, flL_at, List.getElem?_eq_getElem hjl, hh]; rfl)
              rw [← e.1, hyL] at h2
              simp at h2
          rw [← flL_succ Ls j hjl]
          have hat : (flL Ls j)[j]? = some false := by rw [flL_at, List.getElem?_eq_getElem hjl, hb]
          obtain ⟨h3, h4⟩ := List.getElem?_eq_some_iff.1 hat
          conv => lhs; rw [← List.set_getElem_self h3, h4]
        have HJ2 : Hid (IsU B u (.slice (some ⟨gn, 0, none⟩) n cn) (.slice (some ⟨gs, 0, none⟩) n cs) (.slice (some ⟨gl, 0, none⟩) n cl) (flS F Nw (j + 1)) (flS F Sf (j + 1)) (flL Ls (j + 1)) W ∧ KeptIn (Not3 (.slice (some ⟨gn, 0, none⟩) n cn) (.slice (some ⟨gs, 0, none⟩) n cs) (.slice (some ⟨gl, 0, none⟩) n cl)) w W) := Lib.hid (by
          rw [← flS_same F Nw j x (by rw [hfin, HXS.out, hxz]) HXN.out, ← flS_same F Sf j z (by rw [hfin, HXS.out]) HXS.out, ← hL2]
          exact HJ.out)
        have HTS : Hid ((trues Ls (j + 1)).length = c) := Lib.hid (by rw [hts, hc])
        clear hfin hsm hts hxz hL2 HJ hx hz hyS hyN fyS fyN fyL hc HFIN HSAME
        go_wp2_with fail
        go_roundw
        case rel => exact ⟨j + 1, _, rfl, by omega, by go_num, by rw [HTS.out], HJ2⟩
        case measure => simp [RowKit.intOf]; omega
      | true =>
        rw [if_pos rfl] at hfin hts
        have HTS : Hid ((trues Ls (j + 1)).length = c + 1) := Lib.hid (by rw [hts, List.length_append, hc]; rfl)
        clear hsm hts hc HFIN HSAME
        have k0 : (0 : Int) ≤ (c : Int) := by omega
        have k1 : (c : Int) ≤ 16384 := by have := HN.out; omega
        by_cases h0 : 0 < l.length
        · have m0 : (0 : Int) < (l.length : Int) := by omega
          have m1 : (0 : Int) ≤ (c : Int) / 8 % (l.length : Int) := Int.emod_nonneg _ (by omega)
          have m2 : (c : Int) / 8 % (l.length : Int) < (l.length : Int) := Int.emod_lt_of_pos _ m0
          have hlt' : c / 8 % l.length < (⟨l.toArray⟩ : ByteArray).size := Nat.lt_of_lt_of_eq (Nat.mod_lt _ h0) (List.size_toArray ..).symm
          have hbv := bit_val l c h0 hlt'
          by_cases hkb : keepBit l c = true
          · rw [if_pos hkb] at hbv
            rw [if_pos hkb] at hfin
            have hkx : F[j]? = some x := by rw [hfin]; exact HXN.out
            have HB : Hid True := Lib.hid trivial
            go_wp2_with fail
            go_region
            obtain ⟨W2, hW2⟩ : ∃ W2, (W.setCell ⟨gs, j, none⟩ (.string ⟨x.toArray⟩)).drew = W2 := ⟨_, rfl⟩
            rw [hW2]
            have hU2 : IsU B u (.slice (some ⟨gn, 0, none⟩) n cn) (.slice (some ⟨gs, 0, none⟩) n cs) (.slice (some ⟨gl, 0, none⟩) n cl) (flS F Nw (j + 1)) (flS F Sf (j + 1)) (flL Ls j) W2 := by
              have hN := HN.out
              have hSl : (flS F Sf j).length = n := by rw [flS_length _ _ _ (by omega) (by omega)]; omega
              rw [← hW2, ← flS_succ F Sf j x hkx (by omega), ← flS_same F Nw j x hkx HXN.out]
              have := HJ.out.1
              rw [← hSl] at this
              have h2 := (this.setS j (by omega) x).drew
              rw [hSl] at h2
              exact h2
            have hK2 : KeptIn (Not3 (.slice (some ⟨gn, 0, none⟩) n cn) (.slice (some ⟨gs, 0, none⟩) n cs) (.slice (some ⟨gl, 0, none⟩) n cl)) w W2 := by
              rw [← hW2]
              exact (HJ.out.2.setCell (p := ⟨gs, j, none⟩) (fun h => h.2.1 rfl) _).drew
            clear hW2 hyS fyS hyN fyN hx hz hfin hkx
            clear c0 c1 c2 hyL fyL
            have c2 := hU2.c2
            have hLl : (flL Ls j).length = n := by have hN := HN.out; rw [flL_length _ _ (by omega)]; omega
            obtain ⟨gl', cl', e3, _, _, _, _, hcl, hfl⟩ := row_at hU2.rl (by omega)
            rw [hLl] at e3
            simp only [Value.slice.injEq, true_and, Option.some.injEq, Addr.mk.injEq, and_true] at e3
            obtain ⟨rfl, rfl⟩ := e3
            obtain ⟨y, hy⟩ : ∃ y, W2.cell? ⟨gl, j, none⟩ = some y := ⟨_, hcl j _ (List.getElem?_eq_getElem (by rw [List.length_map, hLl]; exact hlt))⟩
            have fy := hfl j
            have HJ2 : Hid (IsU B u (.slice (some ⟨gn, 0, none⟩) n cn) (.slice (some ⟨gs, 0, none⟩) n cs) (.slice (some ⟨gl, 0, none⟩) n cl) (flS F Nw (j + 1)) (flS F Sf (j + 1)) (flL Ls (j + 1)) (W2.setCell ⟨gl, j, none⟩ (.bool false)) ∧ KeptIn (Not3 (.slice (some ⟨gn, 0, none⟩) n cn) (.slice (some ⟨gs, 0, none⟩) n cs) (.slice (some ⟨gl, 0, none⟩) n cl)) w (W2.setCell ⟨gl, j, none⟩ (.bool false))) := Lib.hid (by
              have hN := HN.out
              refine ⟨?_, hK2.setCell (p := ⟨gl, j, none⟩) (fun h => h.2.2 rfl) _⟩
              rw [← flL_succ Ls j (by omega)]
              have := hU2
              rw [← hLl] at this
              have h2 := this.setL j (by omega) false
              rw [hLl] at h2
              exact h2)
            clear hU2 hK2 hcl hfl hLl HJ HF
            go_wp2
            go_roundw
            case rel => exact ⟨j + 1, _, rfl, by omega, by go_num, by rw [HTS.out]; go_num, HJ2⟩
            case measure => simp [RowKit.intOf]; omega
          · rw [if_neg hkb] at hbv
            rw [if_neg hkb] at hfin
            have hkx : F[j]? = some z := by rw [hfin]; exact HXS.out
            go_wp2_with fail
            go_region
            obtain ⟨W2, hW2⟩ : ∃ W2, (W.setCell ⟨gn, j, none⟩ (.string ⟨z.toArray⟩)).drew = W2 := ⟨_, rfl⟩
            rw [hW2]
            have hU2 : IsU B u (.slice (some ⟨gn, 0, none⟩) n cn) (.slice (some ⟨gs, 0, none⟩) n cs) (.slice (some ⟨gl, 0, none⟩) n cl) (flS F Nw (j + 1)) (flS F Sf (j + 1)) (flL Ls j) W2 := by
              have hN := HN.out
              have hSl : (flS F Nw j).length = n := by rw [flS_length _ _ _ (by omega) (by omega)]; omega
              rw [← hW2, ← flS_succ F Nw j z hkx (by omega), ← flS_same F Sf j z hkx HXS.out]
              have := HJ.out.1
              rw [← hSl] at this
              have h2 := (this.setN j (by omega) z).drew
              rw [hSl] at h2
              exact h2
            have hK2 : KeptIn (Not3 (.slice (some ⟨gn, 0, none⟩) n cn) (.slice (some ⟨gs, 0, none⟩) n cs) (.slice (some ⟨gl, 0, none⟩) n cl)) w W2 := by
              rw [← hW2]
              exact (HJ.out.2.setCell (p := ⟨gn, j, none⟩) (fun h => h.1 rfl) _).drew
            clear hW2 hyS fyS hyN fyN hx hz hfin hkx
            clear c0 c1 c2 hyL fyL
            have c2 := hU2.c2
            have hLl : (flL Ls j).length = n := by have hN := HN.out; rw [flL_length _ _ (by omega)]; omega
            obtain ⟨gl', cl', e3, _, _, _, _, hcl, hfl⟩ := row_at hU2.rl (by omega)
            rw [hLl] at e3
            simp only [Value.slice.injEq, true_and, Option.some.injEq, Addr.mk.injEq, and_true] at e3
            obtain ⟨rfl, rfl⟩ := e3
            obtain ⟨y, hy⟩ : ∃ y, W2.cell? ⟨gl, j, none⟩ = some y := ⟨_, hcl j _ (List.getElem?_eq_getElem (by rw [List.length_map, hLl]; exact hlt))⟩
            have fy := hfl j
            have HJ2 : Hid (IsU B u (.slice (some ⟨gn, 0, none⟩) n cn) (.slice (some ⟨gs, 0, none⟩) n cs) (.slice (some ⟨gl, 0, none⟩) n cl) (flS F Nw (j + 1)) (flS F Sf (j + 1)) (flL Ls (j + 1)) (W2.setCell ⟨gl, j, none⟩ (.bool false)) ∧ KeptIn (Not3 (.slice (some ⟨gn, 0, none⟩) n cn) (.slice (some ⟨gs, 0, none⟩) n cs) (.slice (some ⟨gl, 0, none⟩) n cl)) w (W2.setCell ⟨gl, j, none⟩ (.bool false))) := Lib.hid (by
              have hN := HN.out
              refine ⟨?_, hK2.setCell (p := ⟨gl, j, none⟩) (fun h => h.2.2 rfl) _⟩
              rw [← flL_succ Ls j (by omega)]
              have := hU2
              rw [← hLl] at this
              have h2 := this.setL j (by omega) false
              rw [hLl] at h2
              exact h2)
            clear hU2 hK2 hcl hfl hLl HJ HF
            go_wp2
            go_roundw
            case rel => exact ⟨j + 1, _, rfl, by omega, by go_num, by rw [HTS.out]; go_num, HJ2⟩
            case measure => simp [RowKit.intOf]; omega
        · have m0 : (l.length : Int) = 0 := by omega
          obtain rfl : l = [] := List.eq_nil_of_length_eq_zero (by omega)
          have hkb : ¬ keepBit [] c = true := by simp [keepBit]
          clear m0 h0 hlen1
          rw [if_neg hkb] at hfin
          have hkx : F[j]? = some z := by rw [hfin]; exact HXS.out
          go_wp2_with fail
          go_region
          obtain ⟨W2, hW2⟩ : ∃ W2, (W.setCell ⟨gn, j, none⟩ (.string ⟨z.toArray⟩)).drew = W2 := ⟨_, rfl⟩
          rw [hW2]
          have hU2 : IsU B u (.slice (some ⟨gn, 0, none⟩) n cn) (.slice (some ⟨gs, 0, none⟩) n cs) (.slice (some ⟨gl, 0, none⟩) n cl) (flS F Nw (j + 1)) (flS F Sf (j + 1)) (flL Ls j) W2 := by
            have hN := HN.out
            have hSl : (flS F Nw j).length = n := by rw [flS_length _ _ _ (by omega) (by omega)]; omega
            rw [← hW2, ← flS_succ F Nw j z hkx (by omega), ← flS_same F Sf j z hkx HXS.out]
            have := HJ.out.1
            rw [← hSl] at this
            have h2 := (this.setN j (by omega) z).drew
            rw [hSl] at h2
            exact h2
          have hK2 : KeptIn (Not3 (.slice (some ⟨gn, 0, none⟩) n cn) (.slice (some ⟨gs, 0, none⟩) n cs) (.slice (some ⟨gl, 0, none⟩) n cl)) w W2 := by
            rw [← hW2]
            exact (HJ.out.2.setCell (p := ⟨gn, j, none⟩) (fun h => h.1 rfl) _).drew
          clear hW2 hyS fyS hyN fyN hx hz hfin hkx
          clear c0 c1 c2 hyL fyL
          have c2 := hU2.c2
          have hLl : (flL Ls j).length = n := by have hN := HN.out; rw [flL_length _ _ (by omega)]; omega
          obtain ⟨gl', cl', e3, _, _, _, _, hcl, hfl⟩ := row_at hU2.rl (by omega)
          rw [hLl] at e3
          simp only [Value.slice.injEq, true_and, Option.some.injEq, Addr.mk.injEq, and_true] at e3
          obtain ⟨rfl, rfl⟩ := e3
          obtain ⟨y, hy⟩ : ∃ y, W2.cell? ⟨gl, j, none⟩ = some y := ⟨_, hcl j _ (List.getElem?_eq_getElem (by rw [List.length_map, hLl]; exact hlt))⟩
          have fy := hfl j
          have HJ2 : Hid (IsU B u (.slice (some ⟨gn, 0, none⟩) n cn) (.slice (some ⟨gs, 0, none⟩) n cs) (.slice (some ⟨gl, 0, none⟩) n cl) (flS F Nw (j + 1)) (flS F Sf (j + 1)) (flL Ls (j + 1)) (W2.setCell ⟨gl, j, none⟩ (.bool false)) ∧ KeptIn (Not3 (.slice (some ⟨gn, 0, none⟩) n cn) (.slice (some ⟨gs, 0, none⟩) n cs) (.slice (some ⟨gl, 0, none⟩) n cl)) w (W2.setCell ⟨gl, j, none⟩ (.bool false))) := Lib.hid (by
            have hN := HN.out
            refine ⟨?_, hK2.setCell (p := ⟨gl, j, none⟩) (fun h => h.2.2 rfl) _⟩
            rw [← flL_succ Ls j (by omega)]
            have := hU2
            rw [← hLl] at this
            have h2 := this.setL j (by omega) false
            rw [hLl] at h2
            exact h2)
          clear hU2 hK2 hcl hfl hLl HJ HF
          go_wp2
          go_roundw
          case rel => exact ⟨j + 1, _, rfl, by omega, by go_num, by rw [HTS.out]; go_num, HJ2⟩
          case measure => simp [RowKit.intOf]; omega
    · obtain rfl : n = j := by omega
      have HE : Hid (IsU B u (.slice an n cn) (.slice asf n cs) (.slice al n cl) F F (List.replicate n false) W ∧ KeptIn (Not3 (.slice an n cn) (.slice asf n cs) (.slice al n cl)) w W) := Lib.hid (by
        have hN := HN.out
        have e1 : flS F Nw n = F := by rw [flS, List.take_of_length_le (by omega), List.drop_of_length_le (by omega), List.append_nil]
        have e2 : flS F Sf n = F := by rw [flS, List.take_of_length_le (by omega), List.drop_of_length_le (by omega), List.append_nil]
        have e3 : flL Ls n = List.replicate n false := by rw [flL, List.drop_of_length_le (by omega), List.append_nil]
        have := HJ.out
        rw [e1, e2, e3] at this
        exact this)
      clear HJ hts hfin hcb HFIN HSAME
      go_wp2
      go_end0
      exact ⟨rfl, HE.out⟩

end Go.Proofs.Ytbgkfeikfkbfmaa
