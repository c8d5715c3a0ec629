/- Order: Text. -/
import Derived.Test.YtlldmebjgidbaaaDoorTx20
import Derived.Deep.AppendLies
import Derived.Deep.Cut
import Derived.Deep.CutRange
import Derived.Deep.CutBlock
set_option linter.unusedVariables false
namespace Go.Proofs.YtlldmebjgidbaaaDoor
open Go.RowKit

theorem tx_bnd {tx wd : List UInt8} {ns : List Int} {ts : List (List UInt8)} {j nn : Nat} (h : tx.length ≤ 20000) (he : tx = Lib.join (wd :: (ns.map Lib.itoa ++ ts.map runesOf)) [32]) (hn : ns.length = nn) (hj : j < nn) : j + 1 ≤ 20000 := by
  rw [he, Lib.join_cons, List.length_append, Lib.joinTail_length] at h
  simp at h
  omega

theorem tx_bnd2 {tx wd : List UInt8} {ns : List Int} {ts : List (List UInt8)} {nn nt : Nat} (h : tx.length ≤ 20000) (he : tx = Lib.join (wd :: (ns.map Lib.itoa ++ ts.map runesOf)) [32]) (hn : ns.length = nn) (ht : ts.length = nt) : nn + nt ≤ 20000 := by
  rw [he, Lib.join_cons, List.length_append, Lib.joinTail_length] at h
  simp at h
  omega

theorem wrap_succ (j : Nat) (h : j ≤ 1000000) : wrap64 ((j : Int) + 1) = ((j + 1 : Nat) : Int) := by unfold wrap64; omega
theorem wrap_of {tx wd : List UInt8} {ns : List Int} {ts : List (List UInt8)} {j nn : Nat} (hj : j < nn) (hn : ns.length = nn) (h : tx.length ≤ 20000) (he : tx = Lib.join (wd :: (ns.map Lib.itoa ++ ts.map runesOf)) [32]) : wrap64 ((j : Int) + 1) = ((j + 1 : Nat) : Int) := by
  have := tx_bnd h he hn hj
  exact wrap_succ j (by omega)
theorem wrap_of2 {tx wd : List UInt8} {ns : List Int} {ts : List (List UInt8)} {j nn nt : Nat} (hj : j < nt) (hn : ns.length = nn) (ht : ts.length = nt) (h : tx.length ≤ 20000) (he : tx = Lib.join (wd :: (ns.map Lib.itoa ++ ts.map runesOf)) [32]) : wrap64 ((j : Int) + 1) = ((j + 1 : Nat) : Int) := by
  have := tx_bnd2 h he hn ht
  exact wrap_succ j (by omega)
theorem ms_step {j nn : Nat} {x : Int} (h : j < nn) (e : x = ((j + 1 : Nat) : Int)) : nn - (RowKit.intOf (.int .i64 x)).toNat < nn - (RowKit.intOf (.int .i64 (j : Int))).toNat := by
  subst e
  simp only [RowKit.intOf, Int.toNat_natCast]
  omega
theorem take_next {α : Type} {w x : α} {l : List α} {j : Nat} (h : l[j]? = some x) : w :: l.take (j + 1) = (w :: l.take j) ++ [x] := by
  rw [List.take_add_one, h]; rfl
theorem take_next' {α : Type} {w x : α} {m l : List α} {j : Nat} (h : l[j]? = some x) : w :: (m ++ l.take (j + 1)) = (w :: (m ++ l.take j)) ++ [x] := by
  rw [List.take_add_one, h]; simp

set_option maxRecDepth 1000000 in
set_option maxHeartbeats 4000000 in
theorem oText (o : Od) (h : o.ok) (w : World) (T : Tb20 w) :
    Calls Tryd.prog 9 #[valO o] w fun e w' => e = .returned (.tuple #[.string ⟨(txtR o).toArray⟩, .int .i64 (if canT o.ts = true then 0 else 1)]) ∧ KeptIn (· < w.heap.size) w w' := by
  have C := oParts o h w
  have hL := textL_len o h
  cases hc : canT o.ts with
  | false =>
    rw [show txtR o = [] by unfold txtR; rw [hc]; rfl, if_neg (by simp)]
    rw [hc] at C
    generalize valO o = x at C ⊢
    replace C := Lib.hid C
    clear hL
    go_enter Tryd.func9, Tryd.ntmps9
    go_wp2_with fail
    refine C.out.mono ?_
    rintro e W ⟨v1, v2, rfl, h1, h2, hK⟩
    clear C h1 h2
    replace hK := Lib.hid hK
    go_wp2_with fail
    go_ret2
    exact ⟨rfl, hK.out⟩
  | true =>
    rw [show txtR o = textL o by unfold txtR; rw [hc]; rfl, if_pos rfl]
    rw [hc] at C
    have hx : valO o = .iface (tyO o.k) (.agg (numC o.ns ++ txtC o.ts).toArray) := rfl
    rw [hx] at C ⊢
    obtain ⟨f, z, hm, hf, hw⟩ := oWord o h
    generalize Value.agg (numC o.ns ++ txtC o.ts).toArray = y at C hm ⊢
    generalize tyO o.k = ty at C hm ⊢
    have HL := Lib.hid (hL hc)
    replace hw := Lib.hid hw
    replace C := Lib.hid C
    have HI := Lib.hid h.i
    have HS : Hid (∀ x ∈ o.ts, x.length ≤ 512) := Lib.hid fun x hx => of_decide_eq_true (List.all_eq_true.1 hc x hx)
    replace T := Lib.hid T
    obtain ⟨ns, hns⟩ : ∃ ns, o.ns = ns := ⟨_, rfl⟩
    obtain ⟨ts, hts⟩ : ∃ ts, o.ts = ts := ⟨_, rfl⟩
    have hwd : Hid (textL o = Lib.join (wordL o.k :: (ns.map Lib.itoa ++ ts.map runesOf)) [32]) := Lib.hid (by unfold textL wdsO; rw [hns, hts])
    rw [hns, hts] at C
    rw [hns] at HI
    rw [hts] at HS
    obtain ⟨wd, hwd2⟩ : ∃ wd, wordL o.k = wd := ⟨_, rfl⟩
    rw [hwd2] at hw hwd
    obtain ⟨tx, htx⟩ : ∃ tx, textL o = tx := ⟨_, rfl⟩
    rw [htx] at hwd HL ⊢
    clear hx hL hc hns hts hwd2 htx h
    go_enter Tryd.func9, Tryd.ntmps9
    go_wp2_with fail
    refine C.out.mono ?_
    rintro e W ⟨v1, v2, rfl, h1, h2, hK⟩
    clear C h2
    obtain ⟨⟨a1, rfl, hn1⟩, ⟨a2, rfl, hn2⟩⟩ := And.intro (h1 (by trivial)).1.rd (h1 (by trivial)).2.rd
    clear h1
    replace hn1 := Lib.hid hn1
    replace hn2 := Lib.hid hn2
    replace hK := Lib.hid hK
    go_wp2_with fail
    refine (hw.out W).mono ?_
    rintro e W1 ⟨rfl, hK1⟩
    clear hm hf hw
    have HN1 := Lib.hid (hn1.out.old hK1)
    have HN2 := Lib.hid (hn2.out.old hK1)
    have HK1 : Hid (KeptIn (· < w.heap.size) w W1) := Lib.hid (hK.out.trans (hK1.mono fun k hk => Nat.lt_of_lt_of_le hk hK.out.size))
    clear hn1 hn2 hK hK1
    obtain ⟨nn, hnn⟩ : ∃ nn, ns.length = nn := ⟨_, rfl⟩
    obtain ⟨nt, hnt⟩ : ∃ nt, ts.length = nt := ⟨_, rfl⟩
    rw [hnn, hnt]
    replace hnn := Lib.hid hnn
    replace hnt := Lib.hid hnt
    go_upto_block 0 with fail
    go_cut [7, 9] from 25 to 34 (fun v u wx => ∃ (V : World) (v0 u0 : Value), V = wx ∧ v0 = v ∧ u0 = u ∧ Hid (SoJ W1.heap.size W1 (wd :: ns.map Lib.itoa) v0 V))
    case first =>
      as_aux_lemma =>
        go_wp2_with fail
        go_loopw [7, 25] (fun v i wr => ∃ (j : Nat) (V : World) (v0 : Value), V = wr ∧ v0 = v ∧ i = .int .i64 (j : Int) ∧ Hid (j ≤ nn ∧ SoJ W1.heap.size W1 (wd :: (ns.map Lib.itoa).take j) v0 V)) (fun _ i _ => nn - (RowKit.intOf i).toNat)
        case atStart => exact ⟨0, _, _, rfl, rfl, rfl, Nat.zero_le _, SoJ.one (KeptIn.refl _ _) (Nat.le_refl _) wd (fun _ h => h)⟩
        case round =>
          obtain ⟨j, V, v0, rfl, rfl, rfl, H⟩ := hrel
          obtain ⟨hj, hS⟩ := H.out
          clear H
          by_cases hp : j < nn
          · obtain ⟨n, hn⟩ : ∃ n, ns[j]? = some n := ⟨_, List.getElem?_eq_getElem (by rw [hnn.out]; exact hp)⟩
            obtain ⟨g, rfl, hc⟩ := HN1.out.old hS.2.1 j n hn
            obtain ⟨k0, k1⟩ := HI.out n (List.mem_of_getElem? hn)
            have C2 := Lib.hid (tItoa n k0 k1 V ((T.out.kept HK1.out).kept hS.2.1))
            have hnx : Hid (wd :: (ns.map Lib.itoa).take (j + 1) = (wd :: (ns.map Lib.itoa).take j) ++ [Lib.itoa n]) := by
              refine Lib.hid ?_
              exact take_next (by rw [List.getElem?_map, hn]; rfl)
            have d0 : decide ((0 : Int) ≤ (j : Int)) = true := decide_eq_true (by omega)
            have d1 : decide ((j : Int) < (nn : Int)) = true := decide_eq_true (by omega)
            have hbd := tx_bnd HL.out hwd.out hnn.out hp
            have hw := wrap_succ j (by omega)
            have hlen : Hid ((wd :: (ns.map Lib.itoa).take j).length ≤ 50000) := by
              refine Lib.hid ?_
              have h1 := HL.out
              rw [hwd.out, Lib.join_cons, List.length_append] at h1
              simp
              omega
            replace hS := Lib.hid hS
            replace hp := Lib.hid hp
            replace hj := Lib.hid hj
            clear hn k0 k1 hbd
            go_wp2_with fail
            refine C2.out.mono ?_
            rintro e V2 ⟨rfl, hK2⟩
            clear C2 hc
            have hS2 := Lib.hid (hS.out.old hK2)
            clear hS hK2
            obtain ⟨m, hm⟩ : ∃ m, (wd :: (ns.map Lib.itoa).take j).length = m := ⟨_, rfl⟩
            have hrow : V2.ownsRow W1.heap.size 9 1 v0 m (txtC (wd :: (ns.map Lib.itoa).take j)) := by rw [← hm]; exact hS2.out.1
            have HRW := Lib.hid hrow
            have hmb : m ≤ 50000 := by rw [← hm]; exact hlen.out
            have HM := Lib.hid hm
            obtain ⟨ii, hii, hz0, hz1, hz2⟩ := info_parts infoStr
            have hb1 : Hid (m + 1 ≤ maxLen) := Lib.hid (by unfold maxLen; omega)
            have hb2 : Hid ((m + 1) * 16 ≤ 140737488355328) := Lib.hid (by omega)
            have hBW := Lib.hid hS2.out.2.2
            clear hrow hm hmb hlen
            go_wp2_with (first
              | (at_builtin; refine wpList_append_own _ rfl _ _ 29 rfl W1.heap.size 9 ii _ 1 16 Tryd.underlying29 hii hz0 hz1 hz2 rfl (by decide) _ _ _ rfl (HRW.out.alloc _) ⟨V2.heap.size, 0, none⟩ 1 1 [.string ⟨(Lib.itoa n).toArray⟩] rfl rfl (World.news_of_block (cs := #[.string ⟨(Lib.itoa n).toArray⟩]) (t := 9) (fr := (0, 0)) (heap_alloc_new V2 _)) (by simp [Value.oneCell']) hb1.out hb2.out (by rw [World.size_alloc]; exact Nat.le_succ_of_le hBW.out) ?_))
            intro v' w8 hown hgrow _
            have hS3 : Hid (SoJ W1.heap.size W1 (wd :: (ns.map Lib.itoa).take (j + 1)) v' w8) := Lib.hid (by
              rw [hnx.out]
              exact hS2.out.next (fun _ h => h) (by rw [HM.out]; exact hown) hgrow)
            clear hown hgrow hS2 HM HRW hb1 hb2 hBW
            go_wp2_with fail
            go_roundw
            case rel => exact ⟨j + 1, _, _, rfl, rfl, congrArg (Value.int .i64) (wrap_of hp.out hnn.out HL.out hwd.out), hp.out, hS3.out⟩
            case measure => exact ms_step hp.out (wrap_of hp.out hnn.out HL.out hwd.out)
          · obtain rfl : j = nn := by omega
            have d1 : decide ((j : Int) < (j : Int)) = false := decide_eq_false (by omega)
            have hS0 : Hid (SoJ W1.heap.size W1 (wd :: ns.map Lib.itoa) v0 V) := by
              refine Lib.hid ?_
              rw [List.take_of_length_le (by rw [List.length_map, hnn.out]; exact Nat.le_refl _)] at hS
              exact hS
            clear hS hj hp HN1
            go_wp2_with fail
            go_meet
            case rel => exact ⟨_, _, _, rfl, rfl, rfl, hS0.out⟩
    case rest =>
      as_aux_lemma =>
        obtain ⟨V, v0, u0, rfl, rfl, rfl, hS0⟩ := hcut
        go_wp2_with fail
        go_loopw [7, 37] (fun v i wr => ∃ (k : Nat) (V : World) (v0 : Value), V = wr ∧ v0 = v ∧ i = .int .i64 (k : Int) ∧ Hid (k ≤ nt ∧ SoJ W1.heap.size W1 (wd :: (ns.map Lib.itoa ++ (ts.map runesOf).take k)) v0 V)) (fun _ i _ => nt - (RowKit.intOf i).toNat)
        case atStart =>
          refine ⟨0, _, _, rfl, rfl, rfl, Nat.zero_le _, ?_⟩
          rw [List.take_zero, List.append_nil]
          exact hS0.out
        case round =>
          obtain ⟨k, V', v0', rfl, rfl, rfl, H⟩ := hrel
          obtain ⟨hk, hS⟩ := H.out
          clear H hS0
          by_cases hp : k < nt
          · obtain ⟨x, hn⟩ : ∃ n, ts[k]? = some n := ⟨_, List.getElem?_eq_getElem (by rw [hnt.out]; exact hp)⟩
            obtain ⟨g, rfl, hc⟩ := HN2.out.old hS.2.1 k x hn
            have C2 := Lib.hid (oRunes x (by have := HS.out x (List.mem_of_getElem? hn); omega) V')
            have hnx : Hid (wd :: (ns.map Lib.itoa ++ (ts.map runesOf).take (k + 1)) = (wd :: (ns.map Lib.itoa ++ (ts.map runesOf).take k)) ++ [runesOf x]) := by
              refine Lib.hid ?_
              rw [take_next' (by rw [List.getElem?_map, hn]; rfl)]
            have d0 : decide ((0 : Int) ≤ (k : Int)) = true := decide_eq_true (by omega)
            have d1 : decide ((k : Int) < (nt : Int)) = true := decide_eq_true (by omega)
            have hbd := tx_bnd2 HL.out hwd.out hnn.out hnt.out
            have hw := wrap_succ k (by omega)
            have hlen : Hid ((wd :: (ns.map Lib.itoa ++ (ts.map runesOf).take k)).length ≤ 50000) := by
              refine Lib.hid ?_
              have := hnn.out
              simp
              omega
            replace hS := Lib.hid hS
            replace hp := Lib.hid hp
            replace hk := Lib.hid hk
            clear hn hbd
            go_wp2_with fail
            refine C2.out.mono ?_
            rintro e V2 ⟨rfl, hK2⟩
            clear C2 hc
            have hS2 := Lib.hid (hS.out.old hK2)
            clear hS hK2
            obtain ⟨m, hm⟩ : ∃ m, (wd :: (ns.map Lib.itoa ++ (ts.map runesOf).take k)).length = m := ⟨_, rfl⟩
            have hrow : V2.ownsRow W1.heap.size 9 1 v0' m (txtC (wd :: (ns.map Lib.itoa ++ (ts.map runesOf).take k))) := by rw [← hm]; exact hS2.out.1
            have HRW := Lib.hid hrow
            have hmb : m ≤ 50000 := by rw [← hm]; exact hlen.out
            have HM := Lib.hid hm
            obtain ⟨ii, hii, hz0, hz1, hz2⟩ := info_parts infoStr
            have hb1 : Hid (m + 1 ≤ maxLen) := Lib.hid (by unfold maxLen; omega)
            have hb2 : Hid ((m + 1) * 16 ≤ 140737488355328) := Lib.hid (by omega)
            have hBW := Lib.hid hS2.out.2.2
            clear hrow hm hmb hlen
            go_wp2_with (first
              | (at_builtin; refine wpList_append_own _ rfl _ _ 29 rfl W1.heap.size 9 ii _ 1 16 Tryd.underlying29 hii hz0 hz1 hz2 rfl (by decide) _ _ _ rfl (HRW.out.alloc _) ⟨V2.heap.size, 0, none⟩ 1 1 [.string ⟨(runesOf x).toArray⟩] rfl rfl (World.news_of_block (cs := #[.string ⟨(runesOf x).toArray⟩]) (t := 9) (fr := (0, 0)) (heap_alloc_new V2 _)) (by simp [Value.oneCell']) hb1.out hb2.out (by rw [World.size_alloc]; exact Nat.le_succ_of_le hBW.out) ?_))
            intro v' w8 hown hgrow _
            have hS3 : Hid (SoJ W1.heap.size W1 (wd :: (ns.map Lib.itoa ++ (ts.map runesOf).take (k + 1))) v' w8) := Lib.hid (by
              rw [hnx.out]
              exact hS2.out.next (fun _ h => h) (by rw [HM.out]; exact hown) hgrow)
            clear hown hgrow hS2 HM HRW hb1 hb2 hBW
            go_wp2_with fail
            go_roundw
            case rel => exact ⟨k + 1, _, _, rfl, rfl, congrArg (Value.int .i64) (wrap_of2 hp.out hnn.out hnt.out HL.out hwd.out), hp.out, hS3.out⟩
            case measure => exact ms_step hp.out (wrap_of2 hp.out hnn.out hnt.out HL.out hwd.out)
          · obtain rfl : k = nt := by omega
            have d1 : decide ((k : Int) < (k : Int)) = false := decide_eq_false (by omega)
            obtain ⟨L, hLL⟩ : ∃ L, wd :: (ns.map Lib.itoa ++ ts.map runesOf) = L := ⟨_, rfl⟩
            have hS0 : SoJ W1.heap.size W1 L v0' V' := by
              rw [List.take_of_length_le (by rw [List.length_map, hnt.out]; exact Nat.le_refl _), hLL] at hS
              exact hS
            have hwd2 : tx = Lib.join L [32] := by rw [← hLL]; exact hwd.out
            obtain ⟨g, cap, rfl, q1, q2, q3⟩ := hS0.read (by rw [← hLL]; simp)
            have hbd : L.length ≤ 140737488355328 := by
              have h1 := tx_bnd2 HL.out hwd.out hnn.out hnt.out
              have h2 := hnn.out
              have h3 := hnt.out
              rw [← hLL]
              simp
              omega
            have C3 := Lib.hid (tJoin g 0 cap L V' q3 q2 hbd q1 (by rw [← hwd2]; have := HL.out; omega))
            rw [← hwd2] at C3
            have HK2 : Hid (KeptIn (· < w.heap.size) w V') := Lib.hid (HK1.out.trans (hS0.2.1.mono fun i hi => Nat.lt_of_lt_of_le hi HK1.out.size))
            clear hS hk hp HN2 q1 q2 q3 hbd hwd2 hS0 HK1 hLL
            go_wp2_with fail
            refine C3.out.mono ?_
            rintro e W9 ⟨rfl, hK9⟩
            clear C3
            replace hK9 := Lib.hid hK9
            go_wp2_with fail
            go_ret2
            exact ⟨rfl, HK2.out.trans (hK9.out.mono fun i hi => Nat.lt_of_lt_of_le hi HK2.out.size)⟩


end Go.Proofs.YtlldmebjgidbaaaDoor
