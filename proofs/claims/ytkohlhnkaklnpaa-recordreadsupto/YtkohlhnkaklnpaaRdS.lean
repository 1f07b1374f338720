import Derived.Test.YtkohlhnkaklnpaaMr08
import Derived.Test.YtkohlhnkaklnpaaRdQ
/-
  RecordReads, for every input of bulk at most 1,048,576: the row.
-/
namespace Go.Proofs.Ytkohlhnkaklnpaa
open Go.RowKit
set_option maxHeartbeats 16000000 in
set_option maxRecDepth 100000 in
theorem reads_walk (vb : Value) (b : List UInt8) (stop : Int) (w : World) (hb : Bs w vb b) (hnb : NilOr vb) (hlb : b.length ≤ 1048576) :
    Calls Try.prog 4 #[vb, .int .i64 stop] w fun e w' => e = .returned (.bool true) ∧ Below w.heap.size w w' := by
  obtain ⟨aob, cb, rfl, hb1, hb2, hb3⟩ := id hb
  have HB := hide hb
  have HN := hide hnb
  clear hb hb3 hnb
  unfold maxLen at hb2
  have HSH := hide (shown_any w)
  go_enter Try.func4, Try.ntmps4
  go_wp2_with fail
  refine HSH.out.mono ?_
  rintro e w1 ⟨rfl, be1⟩
  have HSC := hide (scanned_any _ b stop w1 (HB.out.below be1 (Nat.le_refl _)) HN.out hlb)
  have BE1 := hide be1
  clear be1 HSH
  go_wp2_with fail
  refine HSC.out.mono ?_
  rintro e w2 ⟨rfl, be2⟩
  have BE2 := hide (BE1.out.trans (be2.mono BE1.out.size))
  clear be2 HSC
  go_wp2_with fail
  go_ret
  exact ⟨rfl, BE2.out⟩
end Go.Proofs.Ytkohlhnkaklnpaa
namespace Go.Proofs.Ytkohlhnkaklnpaa.recordReads
open Go.ChangeShapes Go.WideShapes Go.ChangeAt Go.RowKit

set_option maxRecDepth 100000 in
theorem lifted (os : Os) (started : os.Started) (H : Type) (enc : TypeId × Value → H) (F : Stop.Interp) :
    ReturnsInHanded {} Try.checked os 4 .any ((Rows.OpenSpec.upto Rows.recordReadsSpec).pre6 enc Try.prog Try.f4 Rows.recordReadsUptoRow.domain false) (((Rows.OpenSpec.upto Rows.recordReadsSpec).at F).post enc Try.prog Try.f4 false true false false) := by
  refine returnsInHanded_of_cond (C := Try.checked) (s := Rows.OpenSpec.upto Rows.recordReadsSpec) (k := Rows.uptoSmall) rfl own started (by kernel_rfl) Try.func4
    (OpenSpec.witness (enc := enc) (C := Try.checked) (s := Rows.OpenSpec.upto Rows.recordReadsSpec) (k := Rows.uptoSmall) rfl false ⟨#[], #[.slice none 0 0, .int .i64 0], []⟩ 8 (by kernel_rfl) (by kernel_rfl) (by kernel_rfl)
      (x := ([.nil, .lit (.int .i64 0)], [], [])) (by kernel_rfl) rfl (by kernel_rfl)) ?_
  intro W base args ds gs before hval0 hW _ hk0 _
  have hval : ∀ (j : Nat) t v, Try.f4.params[j]? = some t → args[j]? = some v → Value.okWide Try.prog W .any base t v := hval0
  have hW' := hW
  obtain ⟨p, q, hA0, hV, rfl, hfz, hnd⟩ := hW
  have hA : DataW.TrodAll enc Try.prog W 0 (fun _ => true) true Try.f4.params.toList args.toList ds p := hA0
  rw [Try.params4] at hA hval
  obtain ⟨v0, vs0, d0, ds0, p0, q0, hargs, rfl, rfl, h0, r0⟩ := trodAll_cons hA
  obtain ⟨v1, vs1, d1, ds1, p1, q1, rfl, rfl, rfl, h1, r1⟩ := trodAll_cons r0
  obtain ⟨rfl, rfl, rfl⟩ := trodAll_nil r1
  obtain rfl : args = #[v0, v1] := by cases args; simp_all
  obtain ⟨rfl, rfl⟩ := trodVars_none hV
  have hk : Rows.uptoBulkAll [d0, d1] ≤ 1048576 := by
    have := hk0
    simp only [List.append_nil] at this
    exact of_decide_eq_true this
  obtain ⟨a0, len0, cap0, rfl⟩ := okWide_slice Try.underlying22 (hval 0 22 v0 rfl rfl)
  have lt0 : ∀ x ∈ p0, x.block < W.heap.size := by obtain ⟨m, hm⟩ := h0; exact DataW.trod_lt m _ _ _ hm
  have hd0 : Rows.uptoBulk d0 ≤ 1048576 := by
    have h := part_le (H := H) (d := d0) (l := [d0, d1]) (by simp)
    omega
  obtain ⟨a1, rfl, rfl, rfl, w1⟩ := open_int Try.underlying3 (hval 1 3 v1 rfl rfl) h1
  obtain ⟨l0, hb0, hlen0, hv0⟩ := bytes_bulk h0 hd0
  clear hA0 hval0
  refine (reads_walk _ l0 a1 W hb0 hv0 hlen0).mono fun e W' ⟨he, bel⟩ => ?_
  subst he
  exact ⟨_, rfl, _, _, _, [], _, [], hW', trodAll_mk1 (shut_bool Try.underlying4 _), (trodAll_cons_mk (Below.trod laidOut (by kernel_rfl) (of_decide_eq_true (by kernel_rfl)) h0 bel lt0) (trodAll_cons_mk (shut_int Try.underlying3 w1) trodAll_mk0)), rfl, bel.frame _, fun h => by cases h⟩

theorem over : Rows.RecordReadsUptoSaid :=
  OpenClaim.holds_of_cond 4 Try.f4 rfl rfl rfl rfl rfl rfl rfl ⟨rfl, rfl, rfl, rfl, rfl⟩ rfl rfl rfl rfl rfl (by kernel_rfl) Try.func4 (by kernel_rfl)
    (of_decide_eq_true (by kernel_rfl)) (by unfold Func.isWrapper; first | (rw [if_pos (by decide +kernel)]; kernel_rfl) | (rw [if_neg (by decide +kernel)]; exact ⟨rfl, rfl⟩))
    (fun os started H enc _ F => lifted os started H enc F)
end Go.Proofs.Ytkohlhnkaklnpaa.recordReads
namespace Go.Proofs.Ytkohlhnkaklnpaa
theorem recordReadsUpto_holds : Rows.RecordReadsUptoSaid := recordReads.over
#print axioms recordReadsUpto_holds
end Go.Proofs.Ytkohlhnkaklnpaa
