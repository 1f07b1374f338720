/-
  Plan's law: grows.
-/
import Derived.Test.YthgjdmomcpcolaaKf
import Derived.Test.YthgjdmomcpcolaaLa
namespace Go.Proofs.Ythgjdmomcpcolaa
open Go.RowKit
set_option maxRecDepth 100000
/-- What is left when all are grown. -/
def Gw (W : World) (gb : Nat) (own : Nat → Nat) (nl no ci cj : Nat) (X : World) : Prop :=
  ∃ own' vl vm vo vn ls ms os ns, Bl X gb own' vl vm vo vn ls ms os ns ls.length os.length (pq ls.length ls.length) (pq os.length os.length) ∧ ms.length = ls.length ∧ ns.length = os.length ∧ ls.length + ci = nl + nl ∧ os.length + cj = no + no ∧ Mv W X (fun k => own k ≠ 0) ∧ ∀ k, own' k ≠ 0 → own k ≠ 0 ∨ W.heap.size ≤ k
set_option maxHeartbeats 16000000 in
theorem grows_any {W : World} {gb : Nat} {own : Nat → Nat} {vl vm vo vn : Value} {ls os : List Value} {ms ns : List Int} {ci cj : Nat} (h : Bl W gb own vl vm vo vn ls ms os ns ci cj (pq ci ls.length) (pq cj os.length)) (hml : ms.length = ls.length) (hnl : ns.length = os.length) (hci : ci ≤ ls.length) (hcj : cj ≤ os.length) (hls : ls.length ≤ 50000) (hos : os.length ≤ 50000) (hpl : Pd (pq ci ls.length) ls) (hpo : Pd (pq cj os.length) os) :
    Calls Try.prog 32 #[.pointer (some ⟨gb, 0, none⟩)] W fun e X => e = .returned (.tuple #[]) ∧ Gw W gb own ls.length os.length ci cj X := by
  obtain ⟨al, cl, rfl⟩ := own_len h.l
  obtain ⟨e0, -, -, -, e4, -⟩ := h.cell
  obtain ⟨n, hn⟩ : ∃ n, n = ls.length := ⟨_, rfl⟩
  have Q0 : Hid (∃ own' vl' vm' ls' ms', G1 W gb own vo vn os ns ci cj (pq cj os.length) n ci own' vl' vm' ls' ms' W) := ⟨own, _, _, ls, ms, by rw [hn]; exact h, hml, by omega, Mv.refl _ _, fun k e => .inl e, by rw [hn]; exact hpl⟩
  have HB : Hid (ns.length = os.length ∧ cj ≤ os.length ∧ n ≤ 50000 ∧ os.length ≤ 50000 ∧ ci ≤ n ∧ Pd (pq cj os.length) os) := ⟨hnl, hcj, by omega, hos, by omega, hpo⟩
  have hnb : (n : Int) ≤ 9223372036854775806 := by omega
  obtain ⟨i0, hi0, hz0, hz1, hz2⟩ := info_parts info3
  obtain ⟨i3, hi3, hz30, hz31, hz32⟩ := info_parts info23
  obtain ⟨i4, hi4, hz40, hz41, hz42⟩ := info_parts info32
  rw [← hn] at e0 ⊢
  clear h hml hnl hci hcj hls hos hpl hpo hn
  go_enter Try.func32, Try.ntmps32
  go_wp2_with fail
  clear e0 e4
  go_loopw [3] (fun v3 X => ∃ i : Nat, ci ≤ i ∧ i ≤ n ∧ v3 = .int .i64 (i : Int) ∧ Hid (∃ own' vl' vm' ls' ms', G1 W gb own vo vn os ns ci cj (pq cj os.length) n i own' vl' vm' ls' ms' X)) (fun v3 _ => n - (intOf v3).toNat)
  case atStart => exact ⟨ci, Nat.le_refl _, HB.out.2.2.2.2.1, rfl, Q0.out⟩
  case round =>
    obtain ⟨i, hic, hi, rfl, HR⟩ := hrel
    clear Q0
    obtain ⟨X0, rfl⟩ : ∃ X, X = wr := ⟨_, rfl⟩
    obtain ⟨own1, vl1, vm1, ls1, ms1, r1, r2, r3, r4, r5, r6⟩ := HR.out
    obtain ⟨e0, e1, -, -, -, -⟩ := r1.cell
    obtain ⟨L, hL⟩ : ∃ L, L = ls1.length := ⟨_, rfl⟩
    by_cases hlt : i < n
    · have t1 : (i : Int) < (n : Int) := by omega
      have hLi : i < L := by have := HB.out; omega
      obtain ⟨gl, cl1, el, -, -⟩ := own_form r1.l (by omega)
      obtain ⟨gm, cm, em, -, -⟩ := own_form r1.m (by omega)
      have hil : i < ls1.length := by omega
      have him : i < ms1.length := by omega
      subst el
      subst em
      have c1 : X0.cell? ⟨gl, i, none⟩ = some ls1[i] := by
        rw [r1.l.cellAt i (by omega), List.getElem?_eq_getElem hil]
      obtain ⟨r, hr⟩ : ∃ r, r = ls1[i] := ⟨_, rfl⟩
      obtain ⟨m, hm⟩ : ∃ m, m = ms1[i] := ⟨_, rfl⟩
      have hrow := r1.rows i hil him
      rw [pq_here hlt, if_pos rfl, ← hr, ← hm] at hrow
      obtain ⟨len, hlen, hrw, hlab⟩ := hrow
      have hsl : len = slen r := by
        have := hrw.slen
        rw [List.length_replicate] at this
        exact this.symm
      have hlen1 : len ≤ 1000 := by
        have := r6 i hil (pq_here hlt)
        rw [← hr] at this
        omega
      obtain ⟨ar, cr, hrv⟩ := own_len hrw
      rw [List.length_replicate] at hrv
      rw [← hr] at c1
      rw [← hL] at e0
      rw [r2, ← hL] at e1
      have P0 : Hid (G2 gb own1 (.slice (some ⟨gl, 0, none⟩) ls1.length cl1) (.slice (some ⟨gm, 0, none⟩) ms1.length cm) vo vn ls1 ms1 os ns ci cj (pq i n) (pq cj os.length) i r m X0 len 0 r X0) := ⟨r1, hrw, .inl rfl, Mv.refl _ _⟩
      have HX := hide r1
      have HS : Hid (∀ kk v Y w' v' o, G2 gb own1 (.slice (some ⟨gl, 0, none⟩) ls1.length cl1) (.slice (some ⟨gm, 0, none⟩) ms1.length cm) vo vn ls1 ms1 os ns ci cj (pq i n) (pq cj os.length) i r m X0 len kk v Y → w'.ownsRow 0 3 1 v' (len + kk + 1) (zc (List.replicate (len + kk) m) ++ [.int .i64 m]) → (Y.alloc o).grownBy w' v.ownBlock → (v'.ownBlock = v.ownBlock ∨ v'.ownBlock = some (Y.alloc o).heap.size) → w'.ownsRow 0 3 1 v (len + kk) (zc (List.replicate (len + kk) m)) → G2 gb own1 (.slice (some ⟨gl, 0, none⟩) ls1.length cl1) (.slice (some ⟨gm, 0, none⟩) ms1.length cm) vo vn ls1 ms1 os ns ci cj (pq i n) (pq cj os.length) i r m X0 len (kk + 1) v' w') := fun kk v Y w' v' o hG h1 h2 h3 h4 => hG.step r1 (pq_here hlt) hil him hr.symm hm.symm hsl h1 h2 h3 h4
      have HC : Hid (∀ kk v Y, G2 gb own1 (.slice (some ⟨gl, 0, none⟩) ls1.length cl1) (.slice (some ⟨gm, 0, none⟩) ms1.length cm) vo vn ls1 ms1 os ns ci cj (pq i n) (pq cj os.length) i r m X0 len kk v Y → Y.cell? ⟨gb, 1, none⟩ = some (.slice (some ⟨gm, 0, none⟩) L cm) ∧ Y.cell? ⟨gm, i, none⟩ = some (.int .i64 m)) := fun kk v Y hG => by
        refine ⟨?_, ?_⟩
        · have := hG.1.cell.2.1
          rw [r2, ← hL] at this
          exact this
        · have := hG.1.m.at i him
          rw [← hm] at this
          exact this
      have HF : Hid (∀ v Y, G2 gb own1 (.slice (some ⟨gl, 0, none⟩) ls1.length cl1) (.slice (some ⟨gm, 0, none⟩) ms1.length cm) vo vn ls1 ms1 os ns ci cj (pq i n) (pq cj os.length) i r m X0 len 70 v Y → ∃ own2, Bl Y gb own2 (.slice (some ⟨gl, 0, none⟩) L cl1) (.slice (some ⟨gm, 0, none⟩) L cm) vo vn ls1 ms1 os ns ci cj (pq (i + 1) n) (pq cj os.length) ∧ Rw Y 0 v (List.replicate (len + 70) m) ∧ In (fun k => own2 k = 6) v ∧ Mv W Y (fun k => own k ≠ 0) ∧ (∀ k, own2 k ≠ 0 → own k ≠ 0 ∨ W.heap.size ≤ k)) := fun v Y hG => by
        obtain ⟨g1, g2, g3, g4⟩ := hG
        have hvb : ∀ k, v.ownBlock = some k → own1 k = 2 * i + 8 ∨ own1 k = 0 := fun k e => by
          rcases g3 with c | c
          · exact .inl (hlab k (c ▸ e))
          · have := c k e
            by_cases z : own1 k = 0
            · exact .inr z
            · have := r1.lt k z
              omega
        refine ⟨dn own1 (2 * i + 8) v, ?_, g2, dn_own, ?_, ?_⟩
        · rw [r2, ← hL] at g1
          exact g1.doneL hvb (fun k e => (g2.lt k e).2) (fun q hq => pq_other hq) (pq_here hlt) pq_gone
        · exact r4.trans g4 (fun k hk e => by
            rcases r5 k (by omega) with c | c
            · exact c
            · omega)
        · intro k e
          have hW := r4.size
          rcases dn_from k e with c | c | c
          · exact r5 k c
          · exact r5 k (by omega)
          · rcases g3 with z | z
            · exact r5 k (by rw [show own1 k = 2 * i + 8 from hlab k (z ▸ c)]; omega)
            · exact .inr (Nat.le_trans hW (z k c))
      have HMI : Hid (∀ h : i < ms1.length, ms1[i] = m) := fun _ => hm.symm
      have HLL : Hid (ms1.length = L ∧ ls1.length = L ∧ L + ci = n + i ∧ len ≤ 1000 ∧ Pd (pq i n) ls1) := ⟨by omega, by omega, by omega, hlen1, r6⟩
      have HSZ : Hid (L ≤ 100000) := by
        have := HB.out
        unfold Hid
        omega
      clear HR r1 r2 r3 r4 r5 r6 hL hil him hr hm hrw hlab hsl hlen hlen1
      subst hrv
      go_wp2_with fail
      clear e0 e1 c1
      go_loopw [4, 5] (fun v4 v5 Y => ∃ kk : Nat, kk ≤ 70 ∧ v5 = .int .i64 (kk : Int) ∧ Hid (G2 gb own1 (.slice (some ⟨gl, 0, none⟩) ls1.length cl1) (.slice (some ⟨gm, 0, none⟩) ms1.length cm) vo vn ls1 ms1 os ns ci cj (pq i n) (pq cj os.length) i (.slice ar len cr) m X0 len kk v4 Y)) (fun _ v5 _ => 70 - (intOf v5).toNat)
      case atStart => exact ⟨0, by omega, rfl, P0.out⟩
      case round =>
        obtain ⟨kk, hkk, rfl, HG⟩ := hrel
        clear P0
        have g2 := HG.out.2.1
        unfold Rw at g2
        rw [List.length_replicate] at g2
        obtain ⟨a4, c4, rfl⟩ := own_len g2
        by_cases hkl : kk < 70
        · have t2 : (kk : Int) < 70 := by omega
          obtain ⟨e1, c1⟩ := HC.out kk _ _ HG.out
          have HG2 := hide g2
          clear g2
          go_wp2_with (at_builtin; refine wpList_append_kept rfl _ _ 23 rfl 0 3 i0 (.int .i64 0) 1 8 Try.underlying23 hi0 hz0 hz1 hz2 rfl (by decide) (.slice a4 (len + kk) c4) (len + kk) (zc (List.replicate (len + kk) m)) rfl ?p1 ⟨wr.heap.size, 0, none⟩ 1 1 [.int .i64 m] rfl rfl (lit_cells wr _ 3) (fun u hu => by rw [List.mem_singleton.1 hu]; rfl) ?p3 ?p4 (Nat.zero_le _) ?_)
          case p1 => exact own_later HG2.out (below_alloc wr _)
          case p3 => have := HLL.out; unfold maxLen; omega
          case p4 => have := HLL.out; omega
          intro v8 w8 h8 hg8 hb8' hk8
          have hb8 : v8.ownBlock = (Value.slice a4 (len + kk) c4).ownBlock ∨ v8.ownBlock = some (wr.alloc (.cells #[.int .i64 m] 3)).heap.size := by rw [alloc_size]; exact hb8'
          have HN := hide (HS.out kk _ wr w8 v8 _ HG.out h8 hg8 hb8 hk8)
          obtain ⟨a8, c8, rfl⟩ := own_len h8
          clear h8 hg8 hb8 hb8' hk8 e1 c1 HG HG2
          go_wp2_with fail
          go_roundw
          case rel => exact ⟨kk + 1, by omega, rfl, HN.out⟩
          case measure => simp only [intOf]; omega
        · have t2 : ¬ (kk : Int) < 70 := by omega
          obtain rfl : kk = 70 := by omega
          obtain ⟨own2, f1, f2, f3, f4, f5⟩ := HF.out _ wr HG.out
          obtain ⟨e0, e1, -, -, -, -⟩ := f1.cell
          have HF1 := hide f1
          have HF2 : Hid (Rw wr 0 (.slice a4 (len + 70) c4) (List.replicate (len + 70) m) ∧ In (fun k => own2 k = 6) (.slice a4 (len + 70) c4) ∧ Mv W wr (fun k => own k ≠ 0) ∧ (∀ k, own2 k ≠ 0 → own k ≠ 0 ∨ W.heap.size ≤ k)) := ⟨f2, f3, f4, f5⟩
          clear f1 f2 f3 f4 f5 HG HF HC HS g2
          go_wp2_with (at_builtin; refine wpList_append_kept rfl _ _ 32 rfl 0 23 i3 (.slice none 0 0) 1 24 Try.underlying32 hi3 hz30 hz31 hz32 rfl (by decide) (.slice (some ⟨gl, 0, none⟩) L cl1) L ls1 rfl ?p1 ⟨wr.heap.size, 0, none⟩ 1 1 [.slice a4 (len + 70) c4] rfl rfl (lit_cells wr _ 23) (fun u hu => by rw [List.mem_singleton.1 hu]; rfl) ?p3 ?p4 (Nat.zero_le _) ?_)
          case p1 =>
            have := (HF1.out.later (below_alloc wr (.cells #[.slice a4 (len + 70) c4] 23))).l
            rw [HLL.out.2.1] at this
            exact this
          case p3 => have := HSZ.out; unfold maxLen; omega
          case p4 => have := HSZ.out; omega
          intro v8 w8 h8 hg8 hb8' _
          have hb8 : v8.ownBlock = (Value.slice (some ⟨gl, 0, none⟩) L cl1).ownBlock ∨ v8.ownBlock = some (wr.alloc (.cells #[.slice a4 (len + 70) c4] 23)).heap.size := by rw [alloc_size]; exact hb8'
          have hB8 := HF1.out.later (below_alloc wr (.cells #[.slice a4 (len + 70) c4] 23))
          have hc8 := hB8.block hg8 (fun k e => by have h2 : own2 k = 2 := HF1.out.l2 k e; omega)
          have c8 : w8.cell? ⟨gb, 0, none⟩ = some (.slice (some ⟨gl, 0, none⟩) L cl1) := by rw [cell_of_row _ _ _ _ 35 (0, 0) hc8]; rfl
          have f8 : w8.frozen? ⟨gb, 0, none⟩ = false := frozen_of_row w8 gb _ _ 35 hc8
          have HL8 : Hid (∃ own3, Bl (w8.setCell ⟨gb, 0, none⟩ v8) gb own3 v8 (.slice (some ⟨gm, 0, none⟩) L cm) vo vn (ls1 ++ [.slice a4 (len + 70) c4]) ms1 os ns ci cj (pq (i + 1) n) (pq cj os.length) ∧ Rw (w8.setCell ⟨gb, 0, none⟩ v8) 0 (.slice a4 (len + 70) c4) (List.replicate (len + 70) m) ∧ In (fun k => own3 k = 6) (.slice a4 (len + 70) c4) ∧ Mv W (w8.setCell ⟨gb, 0, none⟩ v8) (fun k => own k ≠ 0) ∧ ∀ k, own3 k ≠ 0 → own k ≠ 0 ∨ W.heap.size ≤ k) := by
            obtain ⟨q1, q2, q3, q4⟩ := HF2.out
            have hmf : Mv (wr.alloc (.cells #[.slice a4 (len + 70) c4] 23)) (w8.setCell ⟨gb, 0, none⟩ v8) (fun k => k = gb ∨ (Value.slice (some ⟨gl, 0, none⟩) L cl1).ownBlock = some k) := Mv.field hg8
            have kp := lbl_keep (lab := 6) hB8.gb1 hB8.l2 hB8.lt hb8 (by decide) (by decide) (by decide)
            have q1' := own_later q1 (below_alloc wr (.cells #[.slice a4 (len + 70) c4] 23))
            refine ⟨lbl own2 v8 2, hB8.pushL (by have := HLL.out; omega) hg8 (by rw [List.length_append, HLL.out.2.1]; exact h8) hb8, hmf.own q1' (fun k e => (kp k (q2 k e)).1), fun k e => (kp k (q2 k e)).2, ?_, ?_⟩
            · refine Mv.trans (q3.alloc _) hmf (fun k hk x => ?_)
              have hne : own2 k ≠ 0 := by
                rcases x with x | x
                · rw [x, HF1.out.gb1]; decide
                · rw [show own2 k = 2 from HF1.out.l2 k x]; decide
              rcases q4 k hne with c | c
              · exact c
              · omega
            · intro k e
              have := lbl_from (W := wr.alloc (.cells #[.slice a4 (len + 70) c4] 23)) (own := own2) (v := .slice (some ⟨gl, 0, none⟩) L cl1) (v' := v8) (F := 2) (fun k e => by have : own2 k = 2 := HF1.out.l2 k e; omega) (hb8.imp id (fun c => ⟨_, c, Nat.le_refl _⟩)) k e
              rcases this with c | c
              · exact q4 k c
              · have := q3.size
                rw [alloc_size] at c
                exact .inr (by omega)
          obtain ⟨a8, c8', rfl⟩ := own_len h8
          clear h8 hg8 hb8 hb8' hB8 hc8 HF1 HF2 e0 e1
          go_upto_region 10 with fail
          obtain ⟨w9, hw9⟩ : ∃ X, X = w8.setCell ⟨gb, 0, none⟩ (.slice a8 (L + 1) c8') := ⟨_, rfl⟩
          rw [← hw9] at HL8 ⊢
          clear hw9 c8 f8
          obtain ⟨own3, g1, g2, g3, g4, g5⟩ := HL8.out
          have hlm := HLL.out.1
          have hims : i < ms1.length := by rw [hlm]; exact hLi
          have HS0A : Hid (w9.drew.cell? ⟨gb, 1, none⟩ = some (.slice (some ⟨gm, 0, none⟩) L cm) ∧ w9.drew.cell? ⟨gm, i, none⟩ = some (.int .i64 m)) := by
            have hB := g1.later (below_drew w9)
            refine ⟨hB.cell.2.1, ?_⟩
            have := hB.m
            rw [← hlm] at this
            rw [← HMI.out hims]
            exact this.at i hims
          have bA : ∀ o, Below w9.heap.size w9 (w9.drew.alloc o) := fun o => below_on (below_drew w9) (below_alloc w9.drew o)
          have HSAA : Hid (∀ o, (w9.drew.alloc o).cell? ⟨gb, 1, none⟩ = some (.slice (some ⟨gm, 0, none⟩) L cm) ∧ (w9.drew.alloc o).cell? ⟨gm, i, none⟩ = some (.int .i64 m)) := fun o => by
            have hM := Mv.of_below (below_alloc w9.drew o) (fun _ => False)
            exact ⟨hM.cell HS0A.out.1 id, hM.cell HS0A.out.2 id⟩
          have HOWA : Hid ((w9.drew.alloc (.cells #[.int .i64 m] 3)).ownsRow 0 3 1 (.slice (some ⟨gm, 0, none⟩) L cm) L (zc ms1)) := by
            have := (g1.later (bA (.cells #[.int .i64 m] 3))).m
            unfold Rw at this
            rw [hlm] at this
            exact this
          have LWA : Hid (∀ v10 w10, w10.ownsRow 0 3 1 v10 (L + 1) (zc ms1 ++ [.int .i64 m]) → (w9.drew.alloc (.cells #[.int .i64 m] 3)).grownBy w10 (Value.slice (some ⟨gm, 0, none⟩) L cm).ownBlock → (v10.ownBlock = (Value.slice (some ⟨gm, 0, none⟩) L cm).ownBlock ∨ v10.ownBlock = some (w9.drew.alloc (.cells #[.int .i64 m] 3)).heap.size) → w10.ownsRow 0 3 1 (.slice (some ⟨gm, 0, none⟩) L cm) L (zc ms1) → (w10.cell? ⟨gb, 1, none⟩ = some (.slice (some ⟨gm, 0, none⟩) L cm) ∧ w10.cell? ⟨gm, i, none⟩ = some (.int .i64 m)) ∧ w10.frozen? ⟨gb, 1, none⟩ = false ∧ Hid (∃ own' vl' vm' ls' ms', G1 W gb own vo vn os ns ci cj (pq cj os.length) n (i + 1) own' vl' vm' ls' ms' (w10.setCell ⟨gb, 1, none⟩ v10))) := fun v10 w10 h10 hg10 hb10 hk10 => by
            have hB := g1.later (bA (.cells #[.int .i64 m] 3))
            have hc10 := hB.block hg10 (fun k e => by have h2 : own3 k = 3 := g1.m3 k e; omega)
            refine ⟨⟨by rw [cell_of_row _ _ _ _ 35 (0, 0) hc10]; rfl, ?_⟩, frozen_of_row w10 gb _ _ 35 hc10, ?_⟩
            · rw [hk10.cellAt i (by omega), zc_at ms1 i hims, HMI.out hims]
            · have hlL := HLL.out
              have hmf : Mv (w9.drew.alloc (.cells #[.int .i64 m] 3)) (w10.setCell ⟨gb, 1, none⟩ v10) (fun k => k = gb ∨ (Value.slice (some ⟨gm, 0, none⟩) L cm).ownBlock = some k) := Mv.field hg10
              have g4' := g4.later (bA (.cells #[.int .i64 m] 3))
              have hh := hB.pushM6 (by omega) hg10 (m := m) (by unfold Rw; rw [zc_append, List.length_append, hlm]; exact h10) hb10 (n := len + 70) (by omega) (own_later g2 (bA (.cells #[.int .i64 m] 3))) g3 (pq_far (by omega))
              refine ⟨_, _, _, _, _, hh, by simp; omega, by simp; omega, ?_, ?_, fun q hq hp => ?_⟩
              · refine Mv.trans g4' hmf (fun k hk x => ?_)
                have hne : own3 k ≠ 0 := by
                  rcases x with x | x
                  · rw [x, g1.gb1]; decide
                  · rw [show own3 k = 3 from g1.m3 k x]; decide
                rcases g5 k hne with c | c
                · exact c
                · omega
              · intro k e
                have := lbl_from (W := w9.drew.alloc (.cells #[.int .i64 m] 3)) (own := own3) (v := .slice (some ⟨gm, 0, none⟩) L cm) (v' := v10) (F := 3) (fun k e => by have : own3 k = 3 := g1.m3 k e; omega) (hb10.imp id (fun c => ⟨_, c, Nat.le_refl _⟩)) k e
                rcases this with c | c
                · exact g5 k c
                · exact .inr (Nat.le_trans g4'.size c)
              · have hq1 : i + 1 ≤ q ∧ q < n := of_decide_eq_true hp
                have hql : q < ls1.length := by omega
                rw [List.getElem_append_left hql]
                exact hlL.2.2.2.2 q hql (decide_eq_true ⟨by omega, hq1.2⟩)
          clear g1 g2 g3 g4 g5 HL8 bA hlm hims
          go_wp2_with fail
          refine wp_region_noPanic ?_
          refine wp_region_late (J := fun i => i != 16) (S := fun V => V.cell? ⟨gb, 1, none⟩ = some (.slice (some ⟨gm, 0, none⟩) L cm) ∧ V.cell? ⟨gm, i, none⟩ = some (.int .i64 m)) (by kernel_rfl) HS0A.out (fun hHeld => ?_)
          refine' wpAnyJ_takeW (i := 0) (oi := { dst := some 54, op := Op.move (Operand.tmp 0), type := 31, pos := "plan.go:174", after := #[], guard := none }) (v := _) rfl (by kernel_rfl) (by kernel_rfl) (by kernel_rfl) (fun _ _ _ h => h) (Or.inl ⟨by rfl, ?hyA1⟩) ?reA1
          case hyA1 => (intro W hSw; (try dsimp only at hSw); go_simp; try with_reducible rfl)
          try simp only [Act.put, List.setIfInBounds_toArray, List.set_cons_zero, List.set_cons_succ]
          refine' wpAnyJ_takeW (i := 1) (oi := { dst := some 55, op := Op.move (Operand.tmp 0), type := 31, pos := "plan.go:174", after := #[], guard := none }) (v := _) rfl (by kernel_rfl) (by kernel_rfl) (by kernel_rfl) (fun _ _ _ h => h) (Or.inl ⟨by rfl, ?hyA2⟩) ?reA2
          case hyA2 => (intro W hSw; (try dsimp only at hSw); go_simp; try with_reducible rfl)
          try simp only [Act.put, List.setIfInBounds_toArray, List.set_cons_zero, List.set_cons_succ]
          refine' wpAnyJ_takeW (i := 2) (oi := { dst := some 56, op := Op.nilCheck (Operand.tmp 55), type := 0, pos := "plan.go:174", after := #[{ on := 1, ground := Ground.data }], guard := none }) (v := _) rfl (by kernel_rfl) (by kernel_rfl) (by kernel_rfl) (fun _ _ _ h => h) (Or.inl ⟨by rfl, ?hyA3⟩) ?reA3
          case hyA3 => (intro W hSw; (try dsimp only at hSw); go_simp; try with_reducible rfl)
          try simp only [Act.put, List.setIfInBounds_toArray, List.set_cons_zero, List.set_cons_succ]
          refine' wpAnyJ_takeW (i := 3) (oi := { dst := some 57, op := Op.fieldAddr 35 (Operand.tmp 56) 1, type := 0, pos := "plan.go:174", after := #[{ on := 2, ground := Ground.data }], guard := none }) (v := _) rfl (by kernel_rfl) (by kernel_rfl) (by kernel_rfl) (fun _ _ _ h => h) (Or.inl ⟨by rfl, ?hyA4⟩) ?reA4
          case hyA4 => (intro W hSw; (try dsimp only at hSw); go_simp; try with_reducible rfl)
          try simp only [Act.put, List.setIfInBounds_toArray, List.set_cons_zero, List.set_cons_succ]
          refine' wpAnyJ_take (i := 4) (oi := { dst := some 58, op := Op.load 23 (Operand.tmp 57), type := 23, pos := "plan.go:174", after := #[{ on := 3, ground := Ground.data }], guard := none }) (v := _) rfl (by kernel_rfl) (by kernel_rfl) (by kernel_rfl) (by kernel_rfl) (fun _ _ _ h => h) (Or.inl ⟨by rfl, ?hyA5⟩) (by assumption) ?reA5
          case hyA5 => (intro W hSw; (try dsimp only at hSw); go_simp; try with_reducible rfl)
          try simp only [Act.put, List.setIfInBounds_toArray, List.set_cons_zero, List.set_cons_succ]
          refine' wpAnyJ_takeW (i := 5) (oi := { dst := some 59, op := Op.move (Operand.tmp 0), type := 31, pos := "plan.go:174", after := #[], guard := none }) (v := _) rfl (by kernel_rfl) (by kernel_rfl) (by kernel_rfl) (fun _ _ _ h => h) (Or.inl ⟨by rfl, ?hyA6⟩) ?reA6
          case hyA6 => (intro W hSw; (try dsimp only at hSw); go_simp; try with_reducible rfl)
          try simp only [Act.put, List.setIfInBounds_toArray, List.set_cons_zero, List.set_cons_succ]
          refine' wpAnyJ_takeW (i := 6) (oi := { dst := some 60, op := Op.nilCheck (Operand.tmp 59), type := 0, pos := "plan.go:174", after := #[{ on := 5, ground := Ground.data }], guard := none }) (v := _) rfl (by kernel_rfl) (by kernel_rfl) (by kernel_rfl) (fun _ _ _ h => h) (Or.inl ⟨by rfl, ?hyA7⟩) ?reA7
          case hyA7 => (intro W hSw; (try dsimp only at hSw); go_simp; try with_reducible rfl)
          try simp only [Act.put, List.setIfInBounds_toArray, List.set_cons_zero, List.set_cons_succ]
          refine' wpAnyJ_takeW (i := 7) (oi := { dst := some 61, op := Op.fieldAddr 35 (Operand.tmp 60) 1, type := 0, pos := "plan.go:174", after := #[{ on := 6, ground := Ground.data }], guard := none }) (v := _) rfl (by kernel_rfl) (by kernel_rfl) (by kernel_rfl) (fun _ _ _ h => h) (Or.inl ⟨by rfl, ?hyA8⟩) ?reA8
          case hyA8 => (intro W hSw; (try dsimp only at hSw); go_simp; try with_reducible rfl)
          try simp only [Act.put, List.setIfInBounds_toArray, List.set_cons_zero, List.set_cons_succ]
          refine' wpAnyJ_take (i := 8) (oi := { dst := some 62, op := Op.load 23 (Operand.tmp 61), type := 23, pos := "plan.go:174", after := #[{ on := 7, ground := Ground.data }], guard := none }) (v := _) rfl (by kernel_rfl) (by kernel_rfl) (by kernel_rfl) (by kernel_rfl) (fun _ _ _ h => h) (Or.inl ⟨by rfl, ?hyA9⟩) (by assumption) ?reA9
          case hyA9 => (intro W hSw; (try dsimp only at hSw); go_simp; try with_reducible rfl)
          try simp only [Act.put, List.setIfInBounds_toArray, List.set_cons_zero, List.set_cons_succ]
          refine' wpAnyJ_takeW (i := 9) (oi := { dst := some 63, op := Op.move (Operand.tmp 3), type := 3, pos := "plan.go:174", after := #[], guard := none }) (v := _) rfl (by kernel_rfl) (by kernel_rfl) (by kernel_rfl) (fun _ _ _ h => h) (Or.inl ⟨by rfl, ?hyA10⟩) ?reA10
          case hyA10 => (intro W hSw; (try dsimp only at hSw); go_simp; try with_reducible rfl)
          try simp only [Act.put, List.setIfInBounds_toArray, List.set_cons_zero, List.set_cons_succ]
          refine' wpAnyJ_takeW (i := 10) (oi := { dst := some 64, op := Op.indexAddr 23 (Operand.tmp 62) (Operand.tmp 63), type := 0, pos := "plan.go:174", after := #[{ on := 8, ground := Ground.data }, { on := 9, ground := Ground.data }], guard := none }) (v := _) rfl (by kernel_rfl) (by kernel_rfl) (by kernel_rfl) (fun _ _ _ h => h) (Or.inl ⟨by rfl, ?hyA11⟩) ?reA11
          case hyA11 => (intro W hSw; (try dsimp only at hSw); go_simp; try with_reducible rfl)
          try simp only [Act.put, List.setIfInBounds_toArray, List.set_cons_zero, List.set_cons_succ]
          refine' wpAnyJ_take (i := 11) (oi := { dst := some 65, op := Op.load 3 (Operand.tmp 64), type := 3, pos := "plan.go:174", after := #[{ on := 10, ground := Ground.data }], guard := none }) (v := _) rfl (by kernel_rfl) (by kernel_rfl) (by kernel_rfl) (by kernel_rfl) (fun _ _ _ h => h) (Or.inl ⟨by rfl, ?hyA12⟩) (by assumption) ?reA12
          case hyA12 => (intro W hSw; (try dsimp only at hSw); go_simp; try with_reducible rfl)
          try simp only [Act.put, List.setIfInBounds_toArray, List.set_cons_zero, List.set_cons_succ]
          refine wpAnyJ_ready (rs := [12]) (by kernel_rfl) (by simp) ?_
          refine AllReadyJ.cons (o := { dst := some 66, op := Op.buildSlice 23 1 #[(0, Operand.tmp 65)], type := 23, pos := "plan.go:174", after := #[{ on := 11, ground := Ground.data }], guard := none }) rfl (fun K hK => ?_) AllReadyJ.nil
          go_simp
          refine hK.out _ _ (fun _ _ => HSAA.out _) ?_
          clear hK K
          try simp only [Act.put, List.setIfInBounds_toArray, List.set_cons_zero, List.set_cons_succ]
          refine wpAnyJ_ready (rs := [13]) (by kernel_rfl) (by simp) ?_
          refine AllReadyJ.cons (o := { dst := some 67, op := Op.call { callee := Callee.builtin Builtin.append, args := #[Operand.tmp 58, Operand.tmp 66], argTypes := #[23, 23] }, type := 23, pos := "plan.go:174", after := #[{ on := 4, ground := Ground.data }, { on := 12, ground := Ground.data }], guard := none }) rfl (fun K hK => ?_) AllReadyJ.nil
          refine step_append_kept rfl (.tmp 58) (.tmp 66) 23 rfl 0 3 i0 (.int .i64 0) 1 8 Try.underlying23 hi0 hz0 hz1 hz2 rfl (by decide) (.slice (some ⟨gm, 0, none⟩) L cm) L (zc ms1) (by simp [Act.eval]) (HOWA.out) ⟨w9.heap.size, 0, none⟩ 1 1 [.int .i64 m] (by simp [Act.eval]) rfl (lit_cells w9.drew _ 3) (fun u hu => by rw [List.mem_singleton.1 hu]; rfl) (by have := HSZ.out; unfold maxLen; omega) (by have := HSZ.out; omega) (Nat.zero_le _) ?_
          intro v10 w10 h10 hg10 hb10 hk10
          obtain ⟨⟨z10, z11⟩, fz10, HEA⟩ := LWA.out v10 w10 h10 hg10 hb10 hk10
          obtain ⟨a10A, c10A, rfl⟩ := own_len h10
          clear h10 hg10 hb10 hk10
          refine hK.out _ _ (fun _ _ => ⟨z10, z11⟩) ?_
          clear hK K
          try simp only [Act.put, List.setIfInBounds_toArray, List.set_cons_zero, List.set_cons_succ]
          refine' wpAnyJ_takeW (i := 14) (oi := { dst := some 68, op := Op.nilCheck (Operand.tmp 54), type := 0, pos := "plan.go:174", after := #[{ on := 0, ground := Ground.data }, { on := 0, ground := Ground.phase }, { on := 1, ground := Ground.phase }, { on := 2, ground := Ground.phase }, { on := 3, ground := Ground.phase }, { on := 4, ground := Ground.phase }, { on := 5, ground := Ground.phase }, { on := 6, ground := Ground.phase }, { on := 7, ground := Ground.phase }, { on := 8, ground := Ground.phase }, { on := 9, ground := Ground.phase }, { on := 10, ground := Ground.phase }, { on := 11, ground := Ground.phase }, { on := 12, ground := Ground.phase }, { on := 13, ground := Ground.phase }], guard := none }) (v := _) rfl (by kernel_rfl) (by kernel_rfl) (by kernel_rfl) (fun _ _ _ h => h) (Or.inl ⟨by rfl, ?hyA13⟩) ?reA13
          case hyA13 => (intro W hSw; (try dsimp only at hSw); go_simp; try with_reducible rfl)
          try simp only [Act.put, List.setIfInBounds_toArray, List.set_cons_zero, List.set_cons_succ]
          refine' wpAnyJ_takeW (i := 15) (oi := { dst := some 69, op := Op.fieldAddr 35 (Operand.tmp 68) 1, type := 0, pos := "plan.go:174", after := #[{ on := 14, ground := Ground.data }, { on := 0, ground := Ground.phase }, { on := 1, ground := Ground.phase }, { on := 2, ground := Ground.phase }, { on := 3, ground := Ground.phase }, { on := 4, ground := Ground.phase }, { on := 5, ground := Ground.phase }, { on := 6, ground := Ground.phase }, { on := 7, ground := Ground.phase }, { on := 8, ground := Ground.phase }, { on := 9, ground := Ground.phase }, { on := 10, ground := Ground.phase }, { on := 11, ground := Ground.phase }, { on := 12, ground := Ground.phase }, { on := 13, ground := Ground.phase }], guard := none }) (v := _) rfl (by kernel_rfl) (by kernel_rfl) (by kernel_rfl) (fun _ _ _ h => h) (Or.inl ⟨by rfl, ?hyA14⟩) ?reA14
          case hyA14 => (intro W hSw; (try dsimp only at hSw); go_simp; try with_reducible rfl)
          try simp only [Act.put, List.setIfInBounds_toArray, List.set_cons_zero, List.set_cons_succ]
          refine wpAnyJ_ready (rs := [16]) (by kernel_rfl) (by simp) ?_
          refine AllReadyJ.cons (o := { dst := none, op := Op.store 23 (Operand.tmp 69) (Operand.tmp 67), type := 0, pos := "plan.go:174", after := #[{ on := 15, ground := Ground.data }, { on := 13, ground := Ground.data }, { on := 13, ground := Ground.chain }, { on := 0, ground := Ground.phase }, { on := 1, ground := Ground.phase }, { on := 2, ground := Ground.phase }, { on := 3, ground := Ground.phase }, { on := 4, ground := Ground.phase }, { on := 5, ground := Ground.phase }, { on := 6, ground := Ground.phase }, { on := 7, ground := Ground.phase }, { on := 8, ground := Ground.phase }, { on := 9, ground := Ground.phase }, { on := 10, ground := Ground.phase }, { on := 11, ground := Ground.phase }, { on := 12, ground := Ground.phase }, { on := 13, ground := Ground.phase }], guard := none }) rfl (fun K hK => ?_) AllReadyJ.nil
          go_simp
          refine hK.out _ _ (fun h => absurd h (by decide)) ?_
          clear hK K
          try simp only [Act.put, List.setIfInBounds_toArray, List.set_cons_zero, List.set_cons_succ]
          refine wpAnyJ_done (by kernel_rfl) ?_ _
          refine NoPanic.normal ?_
          go_wp2_with fail
          go_roundw
          case rel => exact ⟨i + 1, by omega, by omega, rfl, HEA.out⟩
          case measure => simp only [intOf]; omega
    · have t1 : ¬ (i : Int) < (n : Int) := by omega
      obtain rfl : i = n := by omega
      subst hL
      obtain ⟨al1, cl1, rfl⟩ := own_len r1.l
      obtain ⟨ao, co, rfl⟩ := own_len r1.o
      obtain ⟨e0, e1, e2, e3, e4, e5⟩ := r1.cell
      have f4 := r1.frozen 4
      have HX1 : Hid (Bl (X0.setCell ⟨gb, 4, none⟩ (.int .i64 (ls1.length : Int))) gb own1 (.slice al1 ls1.length cl1) vm1 (.slice ao os.length co) vn ls1 ms1 os ns ls1.length cj (pq ls1.length ls1.length) (pq cj os.length) ∧ ms1.length = ls1.length ∧ ls1.length = ls1.length ∧ ls1.length + ci = i + i ∧ Mv W (X0.setCell ⟨gb, 4, none⟩ (.int .i64 (ls1.length : Int))) (fun k => own k ≠ 0) ∧ (∀ k, own1 k ≠ 0 → own k ≠ 0 ∨ W.heap.size ≤ k)) := by
        refine ⟨(r1.names (P' := pq ls1.length ls1.length) (R' := pq cj os.length) (fun q hq => ?_) (fun _ _ => rfl)).tickI ls1.length, r2, rfl, by omega, r4.trans (Mv.set (S := fun k => k = gb) (Mv.refl X0 _) rfl 4 _) (fun k hk e => ?_), r5⟩
        · rw [show pq i i q = false from decide_eq_false (by omega), show pq ls1.length ls1.length q = false from decide_eq_false (by omega)]
        · rw [show k = gb from e]
          rcases r5 gb (by rw [r1.gb1]; decide) with c | c
          · exact c
          · have hk' : k = gb := e
            omega
      clear HR r1 r2 r3 r4 r5 r6 e1 e3
      go_upto_region 12 with fail
      obtain ⟨X1, hX1⟩ : ∃ X, X = X0.setCell ⟨gb, 4, none⟩ (.int .i64 (ls1.length : Int)) := ⟨_, rfl⟩
      rw [← hX1] at HX1 ⊢
      clear hX1 e0 e2 e4 e5 f4
      obtain ⟨r1, r2, r3, r4, r5, r6⟩ := HX1.out
      obtain ⟨e0, e1, e2, e3, e4, e5⟩ := r1.cell
      have Q0 : Hid (∃ own' vo' vn' os' ns', G3 W gb own (.slice al1 ls1.length cl1) vm1 ls1 ms1 ls1.length cj (pq ls1.length ls1.length) os.length cj own' vo' vn' os' ns' X1) := ⟨own1, _, _, os, ns, r1, HB.out.1, by omega, r5, r6, HB.out.2.2.2.2.2⟩
      have HLs : Hid (ms1.length = ls1.length ∧ ls1.length = ls1.length ∧ ls1.length + ci = i + i) := ⟨r2, r3, r4⟩
      have hob : (os.length : Int) ≤ 9223372036854775806 := by have := HB.out; omega
      clear HX1 r1 r2 r3 r4 r5 r6 e0 e1 e3 e4
      go_wp2_with fail
      clear e2 e5
      obtain ⟨no, hno⟩ : ∃ no, no = os.length := ⟨_, rfl⟩
      rw [← hno] at Q0 hob ⊢
      have HNO := hide hno
      clear hno
      go_loopw [6] (fun v6 X => ∃ j : Nat, cj ≤ j ∧ j ≤ no ∧ v6 = .int .i64 (j : Int) ∧ Hid (∃ own' vo' vn' os' ns', G3 W gb own (.slice al1 ls1.length cl1) vm1 ls1 ms1 ls1.length cj (pq ls1.length ls1.length) no j own' vo' vn' os' ns' X)) (fun v6 _ => no - (intOf v6).toNat)
      case atStart => exact ⟨cj, Nat.le_refl _, by rw [HNO.out]; exact HB.out.2.1, rfl, Q0.out⟩
      case round =>
        obtain ⟨j, hjc, hj, rfl, HR⟩ := hrel
        clear Q0
        obtain ⟨X2, rfl⟩ : ∃ X, X = wr := ⟨_, rfl⟩
        obtain ⟨own2, vo1, vn1, os1, ns1, r1, r2, r3, r4, r5, r6⟩ := HR.out
        obtain ⟨-, -, e2, e3, -, e5⟩ := r1.cell
        have f5 := r1.frozen 5
        obtain ⟨L, hL⟩ : ∃ L, L = os1.length := ⟨_, rfl⟩
        by_cases hlt2 : j < no
        · have t3 : (j : Int) < (no : Int) := by omega
          have hLj : j < L := by omega
          obtain ⟨gl, cl2, el, -, -⟩ := own_form r1.o (by omega)
          obtain ⟨gm, cm, em, -, -⟩ := own_form r1.n (by omega)
          have hil : j < os1.length := by omega
          have him : j < ns1.length := by omega
          subst el
          subst em
          have c1 : X2.cell? ⟨gl, j, none⟩ = some os1[j] := by
            rw [r1.o.cellAt j (by omega), List.getElem?_eq_getElem hil]
          obtain ⟨r, hr⟩ : ∃ r, r = os1[j] := ⟨_, rfl⟩
          obtain ⟨m, hm⟩ : ∃ m, m = ns1[j] := ⟨_, rfl⟩
          have hrow := r1.orows j hil him
          rw [pq_here hlt2, if_pos rfl, ← hr, ← hm] at hrow
          obtain ⟨xs0, hxs0, hrw, hlab, hone⟩ := hrow
          obtain ⟨ar, cr, hrv⟩ := own_len hrw
          obtain ⟨len, hlen⟩ : ∃ len, len = xs0.length := ⟨_, rfl⟩
          rw [← hlen] at hrv hrw
          have hsl : len = slen r := by rw [hrv]; rfl
          have hlen1 : len ≤ 1000 := by
            have := r6 j hil (pq_here hlt2)
            rw [← hr] at this
            omega
          rw [← hr] at c1
          rw [← hL] at e2
          rw [r2, ← hL] at e3
          have P0 : Hid (G4 gb own2 (.slice al1 ls1.length cl1) vm1 (.slice (some ⟨gl, 0, none⟩) os1.length cl2) (.slice (some ⟨gm, 0, none⟩) ns1.length cm) ls1 ms1 os1 ns1 ls1.length cj (pq ls1.length ls1.length) (pq j no) j r m X2 len 0 xs0 r X2) := ⟨own2, r1, hlen.symm, hrw, hone, .inl rfl, Mv.refl _ _, fun k e => .inl e, fun _ _ => rfl⟩
          have HS : Hid (∀ kk xs v Y w' v', G4 gb own2 (.slice al1 ls1.length cl1) vm1 (.slice (some ⟨gl, 0, none⟩) os1.length cl2) (.slice (some ⟨gm, 0, none⟩) ns1.length cm) ls1 ms1 os1 ns1 ls1.length cj (pq ls1.length ls1.length) (pq j no) j r m X2 len kk xs v Y → w'.ownsRow 0 23 1 v' (len + kk + 1) (xs ++ [.slice (some ⟨Y.heap.size, 0, none⟩) 1 1]) → ((Y.alloc (.cells #[.int .i64 m] 3)).alloc (.cells #[.slice (some ⟨Y.heap.size, 0, none⟩) 1 1] 23)).grownBy w' v.ownBlock → (v'.ownBlock = v.ownBlock ∨ v'.ownBlock = some (Y.heap.size + 2)) → w'.ownsRow 0 23 1 v (len + kk) xs → G4 gb own2 (.slice al1 ls1.length cl1) vm1 (.slice (some ⟨gl, 0, none⟩) os1.length cl2) (.slice (some ⟨gm, 0, none⟩) ns1.length cm) ls1 ms1 os1 ns1 ls1.length cj (pq ls1.length ls1.length) (pq j no) j r m X2 len (kk + 1) (xs ++ [.slice (some ⟨Y.heap.size, 0, none⟩) 1 1]) v' w') := fun kk xs v Y w' v' hG h1 h2 h3 h4 => hG.step r1 (pq_here hlt2) hil him hr.symm hm.symm hsl h1 h2 h3 h4
          have HC : Hid (∀ kk xs v Y, G4 gb own2 (.slice al1 ls1.length cl1) vm1 (.slice (some ⟨gl, 0, none⟩) os1.length cl2) (.slice (some ⟨gm, 0, none⟩) ns1.length cm) ls1 ms1 os1 ns1 ls1.length cj (pq ls1.length ls1.length) (pq j no) j r m X2 len kk xs v Y → Y.cell? ⟨gb, 3, none⟩ = some (.slice (some ⟨gm, 0, none⟩) L cm) ∧ Y.cell? ⟨gm, j, none⟩ = some (.int .i64 m)) := fun kk xs v Y hG => by
            obtain ⟨o2, hG1, -⟩ := hG
            refine ⟨?_, ?_⟩
            · have := hG1.cell.2.2.2.1
              rw [r2, ← hL] at this
              exact this
            · have := hG1.n.at j him
              rw [← hm] at this
              exact this
          have HF : Hid (∀ xs v Y, G4 gb own2 (.slice al1 ls1.length cl1) vm1 (.slice (some ⟨gl, 0, none⟩) os1.length cl2) (.slice (some ⟨gm, 0, none⟩) ns1.length cm) ls1 ms1 os1 ns1 ls1.length cj (pq ls1.length ls1.length) (pq j no) j r m X2 len 70 xs v Y → ∃ own3, Bl Y gb own3 (.slice al1 ls1.length cl1) vm1 (.slice (some ⟨gl, 0, none⟩) L cl2) (.slice (some ⟨gm, 0, none⟩) L cm) ls1 ms1 os1 ns1 ls1.length cj (pq ls1.length ls1.length) (pq (j + 1) no) ∧ Oa Y own3 6 v m ∧ Mv W Y (fun k => own k ≠ 0) ∧ (∀ k, own3 k ≠ 0 → own k ≠ 0 ∨ W.heap.size ≤ k)) := fun xs v Y hG => by
            obtain ⟨o2, g1, gx, g2, g3, g4, g5, g6, g7⟩ := hG
            have hrlt : ∀ k, r.ownBlock = some k → k < X2.heap.size := fun k e => (hrw.lt k e).2
            have hvb : ∀ k, v.ownBlock = some k → o2 k = 2 * j + 9 ∨ o2 k = 0 := fun k e => by
              rcases g4 with c | c
              · have hk := hrlt k (c ▸ e)
                rw [g7 k hk]
                exact .inl (hlab k (c ▸ e))
              · exact .inr (c k e).2
            have hW := r4.size
            refine ⟨dn o2 (2 * j + 9) v, ?_, ⟨xs, by omega, by rw [gx]; exact g2, dn_own, fun x hx => ?_⟩, ?_, ?_⟩
            · rw [r2, ← hL] at g1
              exact g1.doneO hvb (fun k e => (g2.lt k e).2) (fun q hq => pq_other hq) (pq_here hlt2) pq_gone
            · exact (g3 x hx).move (Mv.refl Y (fun _ => False)) (dn_other hvb (by decide) (by omega))
            · exact r4.trans g5 (fun k hk e => by
                rcases r5 k (by omega) with c | c
                · exact c
                · omega)
            · intro k e
              have hh : ∀ k, o2 k ≠ 0 → own k ≠ 0 ∨ W.heap.size ≤ k := fun k e => by
                rcases g6 k e with c | c
                · exact r5 k c
                · exact .inr (Nat.le_trans hW c)
              rcases dn_from k e with c | c | c
              · exact hh k c
              · exact hh k (by omega)
              · rcases g4 with z | z
                · exact r5 k (by rw [show own2 k = 2 * j + 9 from hlab k (z ▸ c)]; omega)
                · exact .inr (Nat.le_trans hW (z k c).1)
          have HMI : Hid (∀ h : j < ns1.length, ns1[j] = m) := fun _ => hm.symm
          have HLL : Hid (ns1.length = L ∧ os1.length = L ∧ L + cj = no + j ∧ len ≤ 1000 ∧ Pd (pq j no) os1) := ⟨by omega, by omega, by omega, hlen1, r6⟩
          have HSZ : Hid (L ≤ 100000) := by
            have := HB.out
            have := HNO.out
            unfold Hid
            omega
          have HLEN := hide hlen1
          clear HR r1 r2 r3 r4 r5 r6 hL hil him hr hm hrw hlab hsl hlen hlen1 hxs0 hone e5 f5
          subst hrv
          go_wp2_with fail
          clear e2 e3 c1
          go_loopw [7, 8] (fun v7 v8 Y => ∃ kk : Nat, ∃ xs, kk ≤ 70 ∧ v8 = .int .i64 (kk : Int) ∧ Hid (G4 gb own2 (.slice al1 ls1.length cl1) vm1 (.slice (some ⟨gl, 0, none⟩) os1.length cl2) (.slice (some ⟨gm, 0, none⟩) ns1.length cm) ls1 ms1 os1 ns1 ls1.length cj (pq ls1.length ls1.length) (pq j no) j (.slice ar len cr) m X2 len kk xs v7 Y)) (fun _ v8 _ => 70 - (intOf v8).toNat)
          case atStart => exact ⟨0, xs0, by omega, rfl, P0.out⟩
          case round =>
            obtain ⟨kk, xs, hkk, rfl, HG⟩ := hrel
            clear P0
            obtain ⟨o2, g1, gx, g2, g3, g4, g5, g6, g7⟩ := HG.out
            obtain ⟨a4, c4, rfl⟩ := own_len g2
            by_cases hkl : kk < 70
            · have t2 : (kk : Int) < 70 := by omega
              obtain ⟨e1, c1⟩ := HC.out kk _ _ _ HG.out
              have HG2 := hide g2
              clear g1 gx g2 g3 g4 g5 g6 g7
              go_wp2_with (at_builtin; refine wpList_append_kept rfl _ _ 32 rfl 0 23 i3 (.slice none 0 0) 1 24 Try.underlying32 hi3 hz30 hz31 hz32 rfl (by decide) (.slice a4 (len + kk) c4) (len + kk) xs rfl ?p1 ⟨wr.heap.size + 1, 0, none⟩ 1 1 [.slice (some ⟨wr.heap.size, 0, none⟩) 1 1] rfl rfl ?p2 (fun u hu => by rw [List.mem_singleton.1 hu]; rfl) ?p3 ?p4 (Nat.zero_le _) ?_)
              case p1 => exact own_later HG2.out (below_on (below_alloc wr _) (below_alloc _ _))
              case p2 =>
                have := lit_cells (wr.alloc (.cells #[.int .i64 m] 3)) (.slice (some ⟨wr.heap.size, 0, none⟩) 1 1) 23
                rw [alloc_size] at this
                exact this
              case p3 => have := HLEN.out; unfold maxLen; omega
              case p4 => have := HLEN.out; omega
              intro v8 w8 h8 hg8 hb8' hk8
              have hb8 : v8.ownBlock = (Value.slice a4 (len + kk) c4).ownBlock ∨ v8.ownBlock = some (wr.heap.size + 2) := by simpa using hb8'
              have HN := hide (HS.out kk xs _ wr w8 v8 HG.out h8 hg8 hb8 hk8)
              obtain ⟨a8, c8, rfl⟩ := own_len h8
              clear h8 hg8 hb8 hb8' hk8 e1 c1 HG HG2
              go_wp2_with fail
              go_roundw
              case rel => exact ⟨kk + 1, _, by omega, rfl, HN.out⟩
              case measure => simp only [intOf]; omega
            · have t2 : ¬ (kk : Int) < 70 := by omega
              obtain rfl : kk = 70 := by omega
              obtain ⟨own3, f1, f2, f3, f4⟩ := HF.out _ _ wr HG.out
              obtain ⟨-, -, e2, e3, -, -⟩ := f1.cell
              have HF1 := hide f1
              have HF2 : Hid (Oa wr own3 6 (.slice a4 (len + 70) c4) m ∧ Mv W wr (fun k => own k ≠ 0) ∧ (∀ k, own3 k ≠ 0 → own k ≠ 0 ∨ W.heap.size ≤ k)) := ⟨f2, f3, f4⟩
              clear f1 f2 f3 f4 HG HF HC HS g1 gx g2 g3 g4 g5 g6 g7
              go_wp2_with (at_builtin; refine wpList_append_kept rfl _ _ 33 rfl 0 32 i4 (.slice none 0 0) 1 24 Try.underlying33 hi4 hz40 hz41 hz42 rfl (by decide) (.slice (some ⟨gl, 0, none⟩) L cl2) L os1 rfl ?p1 ⟨wr.heap.size, 0, none⟩ 1 1 [.slice a4 (len + 70) c4] rfl rfl (lit_cells wr _ 32) (fun u hu => by rw [List.mem_singleton.1 hu]; rfl) ?p3 ?p4 (Nat.zero_le _) ?_)
              case p1 =>
                have := (HF1.out.later (below_alloc wr (.cells #[.slice a4 (len + 70) c4] 32))).o
                rw [HLL.out.2.1] at this
                exact this
              case p3 => have := HSZ.out; unfold maxLen; omega
              case p4 => have := HSZ.out; omega
              intro v8 w8 h8 hg8 hb8' _
              have hb8 : v8.ownBlock = (Value.slice (some ⟨gl, 0, none⟩) L cl2).ownBlock ∨ v8.ownBlock = some (wr.alloc (.cells #[.slice a4 (len + 70) c4] 32)).heap.size := by rw [alloc_size]; exact hb8'
              have hB8 := HF1.out.later (below_alloc wr (.cells #[.slice a4 (len + 70) c4] 32))
              have hc8 := hB8.block hg8 (fun k e => by have h2 : own3 k = 4 := HF1.out.o4 k e; omega)
              have c8 : w8.cell? ⟨gb, 2, none⟩ = some (.slice (some ⟨gl, 0, none⟩) L cl2) := by rw [cell_of_row _ _ _ _ 35 (0, 0) hc8]; rfl
              have f8 : w8.frozen? ⟨gb, 2, none⟩ = false := frozen_of_row w8 gb _ _ 35 hc8
              have HL8 : Hid (∃ own4, Bl (w8.setCell ⟨gb, 2, none⟩ v8) gb own4 (.slice al1 ls1.length cl1) vm1 v8 (.slice (some ⟨gm, 0, none⟩) L cm) ls1 ms1 (os1 ++ [.slice a4 (len + 70) c4]) ns1 ls1.length cj (pq ls1.length ls1.length) (pq (j + 1) no) ∧ Oa (w8.setCell ⟨gb, 2, none⟩ v8) own4 6 (.slice a4 (len + 70) c4) m ∧ Mv W (w8.setCell ⟨gb, 2, none⟩ v8) (fun k => own k ≠ 0) ∧ ∀ k, own4 k ≠ 0 → own k ≠ 0 ∨ W.heap.size ≤ k) := by
                obtain ⟨q1, q3, q4⟩ := HF2.out
                have hmf : Mv (wr.alloc (.cells #[.slice a4 (len + 70) c4] 32)) (w8.setCell ⟨gb, 2, none⟩ v8) (fun k => k = gb ∨ (Value.slice (some ⟨gl, 0, none⟩) L cl2).ownBlock = some k) := Mv.field hg8
                have kp := lbl_keep (lab := 6) hB8.gb1 hB8.o4 hB8.lt hb8 (by decide) (by decide) (by decide)
                have q1' : Oa (wr.alloc (.cells #[.slice a4 (len + 70) c4] 32)) own3 6 (.slice a4 (len + 70) c4) m := q1.move (Mv.of_below (below_alloc wr _) (fun _ => False)) (fun k e => ⟨id, e⟩) (fun k e => ⟨id, e⟩)
                refine ⟨lbl own3 v8 4, hB8.pushO (by have := HLL.out; omega) hg8 (by rw [List.length_append, HLL.out.2.1]; exact h8) hb8, q1'.move hmf kp kp, ?_, ?_⟩
                · refine Mv.trans (q3.alloc _) hmf (fun k hk x => ?_)
                  have hne : own3 k ≠ 0 := by
                    rcases x with x | x
                    · rw [x, HF1.out.gb1]; decide
                    · rw [show own3 k = 4 from HF1.out.o4 k x]; decide
                  rcases q4 k hne with c | c
                  · exact c
                  · omega
                · intro k e
                  have := lbl_from (W := wr.alloc (.cells #[.slice a4 (len + 70) c4] 32)) (own := own3) (v := .slice (some ⟨gl, 0, none⟩) L cl2) (v' := v8) (F := 4) (fun k e => by have : own3 k = 4 := HF1.out.o4 k e; omega) (hb8.imp id (fun c => ⟨_, c, Nat.le_refl _⟩)) k e
                  rcases this with c | c
                  · exact q4 k c
                  · have := q3.size
                    rw [alloc_size] at c
                    exact .inr (by omega)
              obtain ⟨a8, c8', rfl⟩ := own_len h8
              clear h8 hg8 hb8 hb8' hB8 hc8 HF1 HF2 e2 e3
              go_upto_region 22 with fail
              obtain ⟨w9, hw9⟩ : ∃ X, X = w8.setCell ⟨gb, 2, none⟩ (.slice a8 (L + 1) c8') := ⟨_, rfl⟩
              rw [← hw9] at HL8 ⊢
              clear hw9 c8 f8
              obtain ⟨own4, g1, g2, g4, g5⟩ := HL8.out
              have hlm := HLL.out.1
              have hims : j < ns1.length := by rw [hlm]; exact hLj
              have HS0B : Hid (w9.drew.cell? ⟨gb, 3, none⟩ = some (.slice (some ⟨gm, 0, none⟩) L cm) ∧ w9.drew.cell? ⟨gm, j, none⟩ = some (.int .i64 m)) := by
                have hB := g1.later (below_drew w9)
                refine ⟨hB.cell.2.2.2.1, ?_⟩
                have := hB.n
                rw [← hlm] at this
                rw [← HMI.out hims]
                exact this.at j hims
              have bA : ∀ o, Below w9.heap.size w9 (w9.drew.alloc o) := fun o => below_on (below_drew w9) (below_alloc w9.drew o)
              have HSAB : Hid (∀ o, (w9.drew.alloc o).cell? ⟨gb, 3, none⟩ = some (.slice (some ⟨gm, 0, none⟩) L cm) ∧ (w9.drew.alloc o).cell? ⟨gm, j, none⟩ = some (.int .i64 m)) := fun o => by
                have hM := Mv.of_below (below_alloc w9.drew o) (fun _ => False)
                exact ⟨hM.cell HS0B.out.1 id, hM.cell HS0B.out.2 id⟩
              have HOWB : Hid ((w9.drew.alloc (.cells #[.int .i64 m] 3)).ownsRow 0 3 1 (.slice (some ⟨gm, 0, none⟩) L cm) L (zc ns1)) := by
                have := (g1.later (bA (.cells #[.int .i64 m] 3))).n
                unfold Rw at this
                rw [hlm] at this
                exact this
              have LWB : Hid (∀ v10 w10, w10.ownsRow 0 3 1 v10 (L + 1) (zc ns1 ++ [.int .i64 m]) → (w9.drew.alloc (.cells #[.int .i64 m] 3)).grownBy w10 (Value.slice (some ⟨gm, 0, none⟩) L cm).ownBlock → (v10.ownBlock = (Value.slice (some ⟨gm, 0, none⟩) L cm).ownBlock ∨ v10.ownBlock = some (w9.drew.alloc (.cells #[.int .i64 m] 3)).heap.size) → w10.ownsRow 0 3 1 (.slice (some ⟨gm, 0, none⟩) L cm) L (zc ns1) → (w10.cell? ⟨gb, 3, none⟩ = some (.slice (some ⟨gm, 0, none⟩) L cm) ∧ w10.cell? ⟨gm, j, none⟩ = some (.int .i64 m)) ∧ w10.frozen? ⟨gb, 3, none⟩ = false ∧ Hid (∃ own' vo' vn' os' ns', G3 W gb own (.slice al1 ls1.length cl1) vm1 ls1 ms1 ls1.length cj (pq ls1.length ls1.length) no (j + 1) own' vo' vn' os' ns' (w10.setCell ⟨gb, 3, none⟩ v10))) := fun v10 w10 h10 hg10 hb10 hk10 => by
                have hB := g1.later (bA (.cells #[.int .i64 m] 3))
                have hc10 := hB.block hg10 (fun k e => by have h2 : own4 k = 5 := g1.n5 k e; omega)
                refine ⟨⟨by rw [cell_of_row _ _ _ _ 35 (0, 0) hc10]; rfl, ?_⟩, frozen_of_row w10 gb _ _ 35 hc10, ?_⟩
                · rw [hk10.cellAt j (by omega), zc_at ns1 j hims, HMI.out hims]
                · have hlL := HLL.out
                  have hmf : Mv (w9.drew.alloc (.cells #[.int .i64 m] 3)) (w10.setCell ⟨gb, 3, none⟩ v10) (fun k => k = gb ∨ (Value.slice (some ⟨gm, 0, none⟩) L cm).ownBlock = some k) := Mv.field hg10
                  have g4' := g4.later (bA (.cells #[.int .i64 m] 3))
                  have g2' : Oa (w9.drew.alloc (.cells #[.int .i64 m] 3)) own4 6 (.slice a4 (len + 70) c4) m := g2.move (Mv.of_below (bA _) (fun _ => False)) (fun k e => ⟨id, e⟩) (fun k e => ⟨id, e⟩)
                  have hh := hB.pushN6 (by omega) hg10 (m := m) (by unfold Rw; rw [zc_append, List.length_append, hlm]; exact h10) hb10 g2' (pq_far (by omega))
                  refine ⟨_, _, _, _, _, hh, by simp; omega, by simp; omega, ?_, ?_, fun q hq hp => ?_⟩
                  · refine Mv.trans g4' hmf (fun k hk x => ?_)
                    have hne : own4 k ≠ 0 := by
                      rcases x with x | x
                      · rw [x, g1.gb1]; decide
                      · rw [show own4 k = 5 from g1.n5 k x]; decide
                    rcases g5 k hne with c | c
                    · exact c
                    · omega
                  · intro k e
                    have := lbl_from (W := w9.drew.alloc (.cells #[.int .i64 m] 3)) (own := own4) (v := .slice (some ⟨gm, 0, none⟩) L cm) (v' := v10) (F := 5) (fun k e => by have : own4 k = 5 := g1.n5 k e; omega) (hb10.imp id (fun c => ⟨_, c, Nat.le_refl _⟩)) k e
                    rcases this with c | c
                    · exact g5 k c
                    · exact .inr (Nat.le_trans g4'.size c)
                  · have hq1 : j + 1 ≤ q ∧ q < no := of_decide_eq_true hp
                    have hql : q < os1.length := by omega
                    rw [List.getElem_append_left hql]
                    exact hlL.2.2.2.2 q hql (decide_eq_true ⟨by omega, hq1.2⟩)
              clear g1 g2 g4 g5 HL8 bA hlm hims
              go_wp2_with fail
              refine wp_region_noPanic ?_
              refine wp_region_late (J := fun i => i != 16) (S := fun V => V.cell? ⟨gb, 3, none⟩ = some (.slice (some ⟨gm, 0, none⟩) L cm) ∧ V.cell? ⟨gm, j, none⟩ = some (.int .i64 m)) (by kernel_rfl) HS0B.out (fun hHeld => ?_)
              refine' wpAnyJ_takeW (i := 0) (oi := { dst := some 124, op := Op.move (Operand.tmp 0), type := 31, pos := "plan.go:184", after := #[], guard := none }) (v := _) rfl (by kernel_rfl) (by kernel_rfl) (by kernel_rfl) (fun _ _ _ h => h) (Or.inl ⟨by rfl, ?hyB1⟩) ?reB1
              case hyB1 => (intro W hSw; (try dsimp only at hSw); go_simp; try with_reducible rfl)
              try simp only [Act.put, List.setIfInBounds_toArray, List.set_cons_zero, List.set_cons_succ]
              refine' wpAnyJ_takeW (i := 1) (oi := { dst := some 125, op := Op.move (Operand.tmp 0), type := 31, pos := "plan.go:184", after := #[], guard := none }) (v := _) rfl (by kernel_rfl) (by kernel_rfl) (by kernel_rfl) (fun _ _ _ h => h) (Or.inl ⟨by rfl, ?hyB2⟩) ?reB2
              case hyB2 => (intro W hSw; (try dsimp only at hSw); go_simp; try with_reducible rfl)
              try simp only [Act.put, List.setIfInBounds_toArray, List.set_cons_zero, List.set_cons_succ]
              refine' wpAnyJ_takeW (i := 2) (oi := { dst := some 126, op := Op.nilCheck (Operand.tmp 125), type := 0, pos := "plan.go:184", after := #[{ on := 1, ground := Ground.data }], guard := none }) (v := _) rfl (by kernel_rfl) (by kernel_rfl) (by kernel_rfl) (fun _ _ _ h => h) (Or.inl ⟨by rfl, ?hyB3⟩) ?reB3
              case hyB3 => (intro W hSw; (try dsimp only at hSw); go_simp; try with_reducible rfl)
              try simp only [Act.put, List.setIfInBounds_toArray, List.set_cons_zero, List.set_cons_succ]
              refine' wpAnyJ_takeW (i := 3) (oi := { dst := some 127, op := Op.fieldAddr 35 (Operand.tmp 126) 3, type := 0, pos := "plan.go:184", after := #[{ on := 2, ground := Ground.data }], guard := none }) (v := _) rfl (by kernel_rfl) (by kernel_rfl) (by kernel_rfl) (fun _ _ _ h => h) (Or.inl ⟨by rfl, ?hyB4⟩) ?reB4
              case hyB4 => (intro W hSw; (try dsimp only at hSw); go_simp; try with_reducible rfl)
              try simp only [Act.put, List.setIfInBounds_toArray, List.set_cons_zero, List.set_cons_succ]
              refine' wpAnyJ_take (i := 4) (oi := { dst := some 128, op := Op.load 23 (Operand.tmp 127), type := 23, pos := "plan.go:184", after := #[{ on := 3, ground := Ground.data }], guard := none }) (v := _) rfl (by kernel_rfl) (by kernel_rfl) (by kernel_rfl) (by kernel_rfl) (fun _ _ _ h => h) (Or.inl ⟨by rfl, ?hyB5⟩) (by assumption) ?reB5
              case hyB5 => (intro W hSw; (try dsimp only at hSw); go_simp; try with_reducible rfl)
              try simp only [Act.put, List.setIfInBounds_toArray, List.set_cons_zero, List.set_cons_succ]
              refine' wpAnyJ_takeW (i := 5) (oi := { dst := some 129, op := Op.move (Operand.tmp 0), type := 31, pos := "plan.go:184", after := #[], guard := none }) (v := _) rfl (by kernel_rfl) (by kernel_rfl) (by kernel_rfl) (fun _ _ _ h => h) (Or.inl ⟨by rfl, ?hyB6⟩) ?reB6
              case hyB6 => (intro W hSw; (try dsimp only at hSw); go_simp; try with_reducible rfl)
              try simp only [Act.put, List.setIfInBounds_toArray, List.set_cons_zero, List.set_cons_succ]
              refine' wpAnyJ_takeW (i := 6) (oi := { dst := some 130, op := Op.nilCheck (Operand.tmp 129), type := 0, pos := "plan.go:184", after := #[{ on := 5, ground := Ground.data }], guard := none }) (v := _) rfl (by kernel_rfl) (by kernel_rfl) (by kernel_rfl) (fun _ _ _ h => h) (Or.inl ⟨by rfl, ?hyB7⟩) ?reB7
              case hyB7 => (intro W hSw; (try dsimp only at hSw); go_simp; try with_reducible rfl)
              try simp only [Act.put, List.setIfInBounds_toArray, List.set_cons_zero, List.set_cons_succ]
              refine' wpAnyJ_takeW (i := 7) (oi := { dst := some 131, op := Op.fieldAddr 35 (Operand.tmp 130) 3, type := 0, pos := "plan.go:184", after := #[{ on := 6, ground := Ground.data }], guard := none }) (v := _) rfl (by kernel_rfl) (by kernel_rfl) (by kernel_rfl) (fun _ _ _ h => h) (Or.inl ⟨by rfl, ?hyB8⟩) ?reB8
              case hyB8 => (intro W hSw; (try dsimp only at hSw); go_simp; try with_reducible rfl)
              try simp only [Act.put, List.setIfInBounds_toArray, List.set_cons_zero, List.set_cons_succ]
              refine' wpAnyJ_take (i := 8) (oi := { dst := some 132, op := Op.load 23 (Operand.tmp 131), type := 23, pos := "plan.go:184", after := #[{ on := 7, ground := Ground.data }], guard := none }) (v := _) rfl (by kernel_rfl) (by kernel_rfl) (by kernel_rfl) (by kernel_rfl) (fun _ _ _ h => h) (Or.inl ⟨by rfl, ?hyB9⟩) (by assumption) ?reB9
              case hyB9 => (intro W hSw; (try dsimp only at hSw); go_simp; try with_reducible rfl)
              try simp only [Act.put, List.setIfInBounds_toArray, List.set_cons_zero, List.set_cons_succ]
              refine' wpAnyJ_takeW (i := 9) (oi := { dst := some 133, op := Op.move (Operand.tmp 6), type := 3, pos := "plan.go:184", after := #[], guard := none }) (v := _) rfl (by kernel_rfl) (by kernel_rfl) (by kernel_rfl) (fun _ _ _ h => h) (Or.inl ⟨by rfl, ?hyB10⟩) ?reB10
              case hyB10 => (intro W hSw; (try dsimp only at hSw); go_simp; try with_reducible rfl)
              try simp only [Act.put, List.setIfInBounds_toArray, List.set_cons_zero, List.set_cons_succ]
              refine' wpAnyJ_takeW (i := 10) (oi := { dst := some 134, op := Op.indexAddr 23 (Operand.tmp 132) (Operand.tmp 133), type := 0, pos := "plan.go:184", after := #[{ on := 8, ground := Ground.data }, { on := 9, ground := Ground.data }], guard := none }) (v := _) rfl (by kernel_rfl) (by kernel_rfl) (by kernel_rfl) (fun _ _ _ h => h) (Or.inl ⟨by rfl, ?hyB11⟩) ?reB11
              case hyB11 => (intro W hSw; (try dsimp only at hSw); go_simp; try with_reducible rfl)
              try simp only [Act.put, List.setIfInBounds_toArray, List.set_cons_zero, List.set_cons_succ]
              refine' wpAnyJ_take (i := 11) (oi := { dst := some 135, op := Op.load 3 (Operand.tmp 134), type := 3, pos := "plan.go:184", after := #[{ on := 10, ground := Ground.data }], guard := none }) (v := _) rfl (by kernel_rfl) (by kernel_rfl) (by kernel_rfl) (by kernel_rfl) (fun _ _ _ h => h) (Or.inl ⟨by rfl, ?hyB12⟩) (by assumption) ?reB12
              case hyB12 => (intro W hSw; (try dsimp only at hSw); go_simp; try with_reducible rfl)
              try simp only [Act.put, List.setIfInBounds_toArray, List.set_cons_zero, List.set_cons_succ]
              refine wpAnyJ_ready (rs := [12]) (by kernel_rfl) (by simp) ?_
              refine AllReadyJ.cons (o := { dst := some 136, op := Op.buildSlice 23 1 #[(0, Operand.tmp 135)], type := 23, pos := "plan.go:184", after := #[{ on := 11, ground := Ground.data }], guard := none }) rfl (fun K hK => ?_) AllReadyJ.nil
              go_simp
              refine hK.out _ _ (fun _ _ => HSAB.out _) ?_
              clear hK K
              try simp only [Act.put, List.setIfInBounds_toArray, List.set_cons_zero, List.set_cons_succ]
              refine wpAnyJ_ready (rs := [13]) (by kernel_rfl) (by simp) ?_
              refine AllReadyJ.cons (o := { dst := some 137, op := Op.call { callee := Callee.builtin Builtin.append, args := #[Operand.tmp 128, Operand.tmp 136], argTypes := #[23, 23] }, type := 23, pos := "plan.go:184", after := #[{ on := 4, ground := Ground.data }, { on := 12, ground := Ground.data }], guard := none }) rfl (fun K hK => ?_) AllReadyJ.nil
              refine step_append_kept rfl (.tmp 128) (.tmp 136) 23 rfl 0 3 i0 (.int .i64 0) 1 8 Try.underlying23 hi0 hz0 hz1 hz2 rfl (by decide) (.slice (some ⟨gm, 0, none⟩) L cm) L (zc ns1) (by simp [Act.eval]) (HOWB.out) ⟨w9.heap.size, 0, none⟩ 1 1 [.int .i64 m] (by simp [Act.eval]) rfl (lit_cells w9.drew _ 3) (fun u hu => by rw [List.mem_singleton.1 hu]; rfl) (by have := HSZ.out; unfold maxLen; omega) (by have := HSZ.out; omega) (Nat.zero_le _) ?_
              intro v10 w10 h10 hg10 hb10 hk10
              obtain ⟨⟨z10, z11⟩, fz10, HEB⟩ := LWB.out v10 w10 h10 hg10 hb10 hk10
              obtain ⟨a10B, c10B, rfl⟩ := own_len h10
              clear h10 hg10 hb10 hk10
              refine hK.out _ _ (fun _ _ => ⟨z10, z11⟩) ?_
              clear hK K
              try simp only [Act.put, List.setIfInBounds_toArray, List.set_cons_zero, List.set_cons_succ]
              refine' wpAnyJ_takeW (i := 14) (oi := { dst := some 138, op := Op.nilCheck (Operand.tmp 124), type := 0, pos := "plan.go:184", after := #[{ on := 0, ground := Ground.data }, { on := 0, ground := Ground.phase }, { on := 1, ground := Ground.phase }, { on := 2, ground := Ground.phase }, { on := 3, ground := Ground.phase }, { on := 4, ground := Ground.phase }, { on := 5, ground := Ground.phase }, { on := 6, ground := Ground.phase }, { on := 7, ground := Ground.phase }, { on := 8, ground := Ground.phase }, { on := 9, ground := Ground.phase }, { on := 10, ground := Ground.phase }, { on := 11, ground := Ground.phase }, { on := 12, ground := Ground.phase }, { on := 13, ground := Ground.phase }], guard := none }) (v := _) rfl (by kernel_rfl) (by kernel_rfl) (by kernel_rfl) (fun _ _ _ h => h) (Or.inl ⟨by rfl, ?hyB13⟩) ?reB13
              case hyB13 => (intro W hSw; (try dsimp only at hSw); go_simp; try with_reducible rfl)
              try simp only [Act.put, List.setIfInBounds_toArray, List.set_cons_zero, List.set_cons_succ]
              refine' wpAnyJ_takeW (i := 15) (oi := { dst := some 139, op := Op.fieldAddr 35 (Operand.tmp 138) 3, type := 0, pos := "plan.go:184", after := #[{ on := 14, ground := Ground.data }, { on := 0, ground := Ground.phase }, { on := 1, ground := Ground.phase }, { on := 2, ground := Ground.phase }, { on := 3, ground := Ground.phase }, { on := 4, ground := Ground.phase }, { on := 5, ground := Ground.phase }, { on := 6, ground := Ground.phase }, { on := 7, ground := Ground.phase }, { on := 8, ground := Ground.phase }, { on := 9, ground := Ground.phase }, { on := 10, ground := Ground.phase }, { on := 11, ground := Ground.phase }, { on := 12, ground := Ground.phase }, { on := 13, ground := Ground.phase }], guard := none }) (v := _) rfl (by kernel_rfl) (by kernel_rfl) (by kernel_rfl) (fun _ _ _ h => h) (Or.inl ⟨by rfl, ?hyB14⟩) ?reB14
              case hyB14 => (intro W hSw; (try dsimp only at hSw); go_simp; try with_reducible rfl)
              try simp only [Act.put, List.setIfInBounds_toArray, List.set_cons_zero, List.set_cons_succ]
              refine wpAnyJ_ready (rs := [16]) (by kernel_rfl) (by simp) ?_
              refine AllReadyJ.cons (o := { dst := none, op := Op.store 23 (Operand.tmp 139) (Operand.tmp 137), type := 0, pos := "plan.go:184", after := #[{ on := 15, ground := Ground.data }, { on := 13, ground := Ground.data }, { on := 13, ground := Ground.chain }, { on := 0, ground := Ground.phase }, { on := 1, ground := Ground.phase }, { on := 2, ground := Ground.phase }, { on := 3, ground := Ground.phase }, { on := 4, ground := Ground.phase }, { on := 5, ground := Ground.phase }, { on := 6, ground := Ground.phase }, { on := 7, ground := Ground.phase }, { on := 8, ground := Ground.phase }, { on := 9, ground := Ground.phase }, { on := 10, ground := Ground.phase }, { on := 11, ground := Ground.phase }, { on := 12, ground := Ground.phase }, { on := 13, ground := Ground.phase }], guard := none }) rfl (fun K hK => ?_) AllReadyJ.nil
              go_simp
              refine hK.out _ _ (fun h => absurd h (by decide)) ?_
              clear hK K
              try simp only [Act.put, List.setIfInBounds_toArray, List.set_cons_zero, List.set_cons_succ]
              refine wpAnyJ_done (by kernel_rfl) ?_ _
              refine NoPanic.normal ?_
              go_wp2_with fail
              go_roundw
              case rel => exact ⟨j + 1, by omega, by omega, rfl, HEB.out⟩
              case measure => simp only [intOf]; omega
        · have t3 : ¬ (j : Int) < (no : Int) := by omega
          obtain rfl : j = no := by omega
          obtain ⟨ao2, co2, rfl⟩ := own_len r1.o
          have HE : Hid (Gw W gb own i j ci cj (X2.setCell ⟨gb, 5, none⟩ (.int .i64 (os1.length : Int)))) := by
            have hl := HLs.out
            refine ⟨_, _, _, _, _, _, _, _, _, (r1.names (P' := pq ls1.length ls1.length) (R' := pq os1.length os1.length) (fun _ _ => rfl) (fun q hq => ?_)).tickJ os1.length, hl.1, r2, hl.2.2, r3, r4.trans (Mv.set (S := fun k => k = gb) (Mv.refl X2 _) rfl 5 _) (fun k hk e => ?_), r5⟩
            · rw [show pq j j q = false from decide_eq_false (by omega), show pq os1.length os1.length q = false from decide_eq_false (by omega)]
            · rw [show k = gb from e]
              rcases r5 gb (by rw [r1.gb1]; decide) with c | c
              · exact c
              · have hk' : k = gb := e
                omega
          clear HR r1 r2 r3 r4 r5 r6 hL e3
          go_wp2_with fail
          go_end0
          refine ⟨rfl, ?_⟩
          have hE := HE.out
          rw [HNO.out] at hE
          exact hE
end Go.Proofs.Ythgjdmomcpcolaa
