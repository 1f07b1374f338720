/-
  Plan's law: looks.
-/
import Derived.Test.YthgjdmomcpcolaaKf
namespace Go.Proofs.Ythgjdmomcpcolaa
open Go.RowKit
set_option maxRecDepth 100000
set_option maxHeartbeats 8000000 in
theorem looks_any {W : World} {gb : Nat} {own : Nat → Nat} {vl vm vo vn : Value} {ls os : List Value} {ms ns : List Int} {ci cj : Nat} {P R : Nat → Bool} (h : Bl W gb own vl vm vo vn ls ms os ns ci cj P R) (hml : ms.length = ls.length) (hnl : ns.length = os.length) (hls : ls.length ≤ 100000) (hos : os.length ≤ 100000) :
    Calls Try.prog 33 #[.pointer (some ⟨gb, 0, none⟩)] W fun e X => e = .returned (.bool true) ∧ Below W.heap.size W X := by
  obtain ⟨al, cl, rfl⟩ := own_len h.l
  obtain ⟨am, cm, rfl⟩ := own_len h.m
  obtain ⟨ao, co, rfl⟩ := own_len h.o
  obtain ⟨an, cn', rfl⟩ := own_len h.n
  obtain ⟨L, hL⟩ : ∃ L, L = ls.length := ⟨_, rfl⟩
  obtain ⟨O, hO⟩ : ∃ O, O = os.length := ⟨_, rfl⟩
  have hLb : (L : Int) ≤ 9223372036854775806 := by omega
  have hOb : (O : Int) ≤ 9223372036854775806 := by omega
  have HH : Hid (∀ X, Below W.heap.size W X → Bl X gb own (.slice al L cl) (.slice am L cm) (.slice ao O co) (.slice an O cn') ls ms os ns ci cj P R) := fun X hX => by
    have := h.later hX
    rw [hml, hnl, ← hL, ← hO] at this
    exact this
  have HLL : Hid (ls.length = L ∧ ms.length = L ∧ os.length = O ∧ ns.length = O) := ⟨hL.symm, by omega, hO.symm, by omega⟩
  clear h hml hnl hls hos hL hO
  go_enter Try.func33, Try.ntmps33
  go_wp2_with fail
  go_loopw [3] (fun v3 X => ∃ i : Nat, i ≤ L ∧ v3 = .int .i64 (i : Int) ∧ Hid (Below W.heap.size W X)) (fun v3 _ => L - (intOf v3).toNat)
  case atStart => exact ⟨0, Nat.zero_le _, rfl, Below.refl _ _⟩
  case round =>
    obtain ⟨i, hi, rfl, HR⟩ := hrel
    obtain ⟨e0, e1, -, -, -, -⟩ := (HH.out wr HR.out).cell
    by_cases hlt : i < L
    · have t1 : (i : Int) < (L : Int) := by omega
      have Q0 := hide HR.out
      clear HR
      go_wp2_with fail
      clear e0 e1
      go_loopw [4] (fun v4 X => ∃ k : Nat, ∃ r, ls[i]? = some r ∧ k ≤ slen r ∧ v4 = .int .i64 (k : Int) ∧ Hid (Below W.heap.size W X)) (fun v4 _ => 20000 - (intOf v4).toNat)
      case atStart => exact ⟨0, _, List.getElem?_eq_getElem (by have := HLL.out; omega), Nat.zero_le _, rfl, Q0.out⟩
      case round =>
        obtain ⟨k, r, hr, hk, rfl, HR⟩ := hrel
        clear Q0
        have hB := HH.out wr HR.out
        obtain ⟨e0, e1, -, -, -, -⟩ := hB.cell
        have hil : i < ls.length := by have := HLL.out; omega
        have him : i < ms.length := by have := HLL.out; omega
        have hBl := hB.l
        have hBm := hB.m
        unfold Rw at hBm
        rw [HLL.out.1] at hBl
        rw [HLL.out.2.1] at hBm
        obtain ⟨gl, cl1, el, -, -⟩ := own_form hBl (by omega)
        obtain ⟨gm, cm1, em, -, -⟩ := own_form hBm (by omega)
        simp only [Value.slice.injEq, true_and] at el em
        obtain ⟨rfl, rfl⟩ := el
        obtain ⟨rfl, rfl⟩ := em
        have c1 : wr.cell? ⟨gl, i, none⟩ = some r := by rw [hBl.cellAt i (by omega), hr]
        obtain ⟨len, hlen, hrw, -⟩ := hB.rows i hil him
        have c2 : wr.cell? ⟨gm, i, none⟩ = some (.int .i64 ms[i]) := by rw [hBm.cellAt i (by omega), zc_at ms i him]
        rw [List.getElem?_eq_getElem hil] at hr
        rw [Option.some.inj hr] at hrw
        generalize ms[i] = m at hrw c2
        unfold Rw at hrw
        rw [List.length_replicate] at hrw
        obtain ⟨ar, cr, rfl⟩ := own_len hrw
        have hk' : k ≤ len := hk
        have hrs := hide hr
        clear hr hk hB hBl hBm
        have hlb : (len : Int) ≤ 9223372036854775806 := by omega
        have HLEN := hide hlen
        clear hlen
        by_cases hkl : k < len
        · have t2 : (k : Int) < (len : Int) := by omega
          obtain ⟨gr, cr', er, -, -⟩ := own_form hrw (by omega)
          simp only [Value.slice.injEq, true_and] at er
          obtain ⟨rfl, rfl⟩ := er
          have c3 : wr.cell? ⟨gr, k, none⟩ = some (.int .i64 m) := by
            rw [hrw.cellAt k (by omega), zc_at _ k (by simpa using hkl)]
            simp
          clear hrw
          go_wp2_with fail
          go_quiet (fail)
          go_wp2_with fail
          exact ⟨⟨k + 1, _, (List.getElem?_eq_getElem hil).trans hrs.out, by show k + 1 ≤ len; omega, rfl, below_on HR.out (below_drawn wr _)⟩, by have := HLEN.out; simp only [intOf]; omega⟩
        · have t2 : ¬ (k : Int) < (len : Int) := by omega
          clear hrw
          go_wp2_with fail
          go_roundw
          case rel => exact ⟨i + 1, by omega, rfl, HR.out⟩
          case measure => simp only [intOf]; omega
    · have t1 : ¬ (i : Int) < (L : Int) := by omega
      have Q0 := hide HR.out
      clear HR
      go_wp2_with fail
      clear e0 e1
      go_loopw [5] (fun v5 X => ∃ j : Nat, j ≤ O ∧ v5 = .int .i64 (j : Int) ∧ Hid (Below W.heap.size W X)) (fun v5 _ => O - (intOf v5).toNat)
      case atStart => exact ⟨0, Nat.zero_le _, rfl, Q0.out⟩
      case round =>
        obtain ⟨j, hj, rfl, HR⟩ := hrel
        clear Q0
        obtain ⟨-, -, e2, e3, -, -⟩ := (HH.out wr HR.out).cell
        by_cases hlt2 : j < O
        · have t3 : (j : Int) < (O : Int) := by omega
          have Q0 := hide HR.out
          clear HR
          go_wp2_with fail
          clear e2 e3
          go_loopw [6] (fun v6 X => ∃ k : Nat, ∃ r, os[j]? = some r ∧ k ≤ slen r ∧ v6 = .int .i64 (k : Int) ∧ Hid (Below W.heap.size W X)) (fun v6 _ => 20000 - (intOf v6).toNat)
          case atStart => exact ⟨0, _, List.getElem?_eq_getElem (by have := HLL.out; omega), Nat.zero_le _, rfl, Q0.out⟩
          case round =>
            obtain ⟨k, r, hr, hk, rfl, HR⟩ := hrel
            clear Q0
            have hB := HH.out wr HR.out
            obtain ⟨-, -, e2, e3, -, -⟩ := hB.cell
            have hil : j < os.length := by have := HLL.out; omega
            have him : j < ns.length := by have := HLL.out; omega
            have hBl := hB.o
            have hBm := hB.n
            unfold Rw at hBm
            rw [HLL.out.2.2.1] at hBl
            rw [HLL.out.2.2.2] at hBm
            obtain ⟨gl, cl1, el, -, -⟩ := own_form hBl (by omega)
            obtain ⟨gm, cm1, em, -, -⟩ := own_form hBm (by omega)
            simp only [Value.slice.injEq, true_and] at el em
            obtain ⟨rfl, rfl⟩ := el
            obtain ⟨rfl, rfl⟩ := em
            have c1 : wr.cell? ⟨gl, j, none⟩ = some r := by rw [hBl.cellAt j (by omega), hr]
            obtain ⟨xs, hlen, hrw, -, hone⟩ := hB.orows j hil him
            have c2 : wr.cell? ⟨gm, j, none⟩ = some (.int .i64 ns[j]) := by rw [hBm.cellAt j (by omega), zc_at ns j him]
            rw [List.getElem?_eq_getElem hil] at hr
            rw [Option.some.inj hr] at hrw
            generalize ns[j] = m at hone c2
            obtain ⟨len, hle⟩ : ∃ len, len = xs.length := ⟨_, rfl⟩
            rw [← hle] at hlen hrw
            obtain ⟨ar, cr, rfl⟩ := own_len hrw
            have hk' : k ≤ len := hk
            have hrs := hide hr
            clear hr hk hB hBl hBm
            have hlb : (len : Int) ≤ 9223372036854775806 := by omega
            have HLEN := hide hlen
            clear hlen
            by_cases hkl : k < len
            · have t2 : (k : Int) < (len : Int) := by omega
              obtain ⟨gr, cr', er, -, -⟩ := own_form hrw (by omega)
              simp only [Value.slice.injEq, true_and] at er
              obtain ⟨rfl, rfl⟩ := er
              have hkx : k < xs.length := by omega
              obtain ⟨gx, hx1, -, hx3⟩ := hone xs[k] (List.getElem_mem hkx)
              have c3 : wr.cell? ⟨gr, k, none⟩ = some (.slice (some ⟨gx, 0, none⟩) 1 1) := by
                rw [hrw.cellAt k (by omega), List.getElem?_eq_getElem hkx, hx1]
              clear hrw hone hx1 hkx hle
              go_wp2_with fail
              go_quiet (fail)
              go_wp2_with fail
              exact ⟨⟨k + 1, _, (List.getElem?_eq_getElem hil).trans hrs.out, by show k + 1 ≤ len; omega, rfl, below_on HR.out (below_drawn wr _)⟩, by have := HLEN.out; simp only [intOf]; omega⟩
            · have t2 : ¬ (k : Int) < (len : Int) := by omega
              clear hrw hone hle
              go_wp2_with fail
              go_roundw
              case rel => exact ⟨j + 1, by omega, rfl, HR.out⟩
              case measure => simp only [intOf]; omega
        · have t3 : ¬ (j : Int) < (O : Int) := by omega
          go_wp2_with fail
          go_ret
          exact ⟨rfl, HR.out⟩
end Go.Proofs.Ythgjdmomcpcolaa
