/-
  Mix: the program's and the document's; a state of 64 bits in two words, and what comes behind it.
-/
import Derived.Test.YtihlhidpiehehaaBase
import Derived.Laws.Bits64
import Derived.Laws.BitsLemmas
import Derived.Laws.Closers25b
namespace Go.Proofs.Ytihlhidpiehehaa
open Go.RowKit
def mix1 (x : Int) : Int := IntKind.u64.wrap (x + 11400714819323198485)
def mix2 (x : Int) : Int := IntKind.u64.wrap (bits BinOp.xor IntKind.u64 x (x / 1073741824) * 13787848793156543929)
def mix3 (x : Int) : Int := IntKind.u64.wrap (bits BinOp.xor IntKind.u64 x (x / 134217728) * 10723151780598845931)
def mixI (x : Int) : Int := bits BinOp.xor IntKind.u64 (mix3 (mix2 (mix1 x))) (mix3 (mix2 (mix1 x)) / 2147483648)
theorem mixI_lo (x : Int) : 0 ≤ mixI x := bits_lo_u64 _ _ _
theorem mixI_hi (x : Int) : mixI x < 18446744073709551616 := by have := bits_hi_u64 .xor (mix3 (mix2 (mix1 x))) (mix3 (mix2 (mix1 x)) / 2147483648); unfold mixI; omega
theorem mix_any (x : Int) (w : World) (_h0 : 0 ≤ x) (_h1 : x < 18446744073709551616) : Calls Try.prog 7 #[.int .u64 x] w fun e w' => e = .returned (.int .u64 (mixI x)) ∧ w' = w := by
  go_enter Try.func7, Try.ntmps7
  go_wp2_with fail
  go_ret
  exact ⟨rfl, rfl⟩
theorem dmix_any (x : Int) (w : World) (_h0 : 0 ≤ x) (_h1 : x < 18446744073709551616) : Calls Try.prog 8 #[.int .u64 x] w fun e w' => e = .returned (.int .u64 (mixI x)) ∧ w' = w := by
  go_enter Try.func8, Try.ntmps8
  go_wp2_with fail
  go_ret
  exact ⟨rfl, rfl⟩
theorem mix_0 : mixI 0 = 16294208416658607535 := by kernel_rfl
theorem mix_1 : mixI 1 = 10451216379200822465 := by kernel_rfl
theorem mix_end : mixI 7046029254386353131 = 0 := by kernel_rfl
/-- The lower word, the upper one. -/
def lo (s : Int) : Int := s % 4294967296
def hi (s : Int) : Int := s / 4294967296
def stv (s : Int) : Value := .agg #[.int .u32 (lo s), .int .u32 (hi s)]
theorem lo_b (s : Int) : 0 ≤ lo s ∧ lo s < 4294967296 := by unfold lo; omega
theorem hi_b (s : Int) (h0 : 0 ≤ s) (h1 : s < 18446744073709551616) : 0 ≤ hi s ∧ hi s < 4294967296 := by unfold hi; omega
theorem lo_hi (s : Int) : hi s * 4294967296 + lo s = s := by unfold lo hi; omega
theorem join_words (s : Int) (h0 : 0 ≤ s) (h1 : s < 18446744073709551616) : bits BinOp.or IntKind.u64 (IntKind.u64.wrap (IntKind.u64.wrap (hi s) * 4294967296)) (IntKind.u64.wrap (lo s)) = s := by
  obtain ⟨a0, a1⟩ := lo_b s
  obtain ⟨b0, b1⟩ := hi_b s h0 h1
  have e := lo_hi s
  have w1 : IntKind.u64.wrap (hi s) = hi s := by rw [IntKind.wrap_u64]; omega
  have w2 : IntKind.u64.wrap (lo s) = lo s := by rw [IntKind.wrap_u64]; omega
  have w3 : IntKind.u64.wrap (hi s * 4294967296) = hi s * 4294967296 := by rw [IntKind.wrap_u64]; omega
  rw [w1, w2, w3, bits_join .u64 64 (by decide) (fun n h h' => by rw [IntKind.wrap_u64]; omega) 32 _ _ (by omega) (by omega) (by omega) a0 (by omega) (by omega), e]
theorem stateOf_any (x : Int) (w : World) (h0 : 0 ≤ x) (h1 : x < 18446744073709551616) : Calls Try.prog 19 #[.int .u64 x] w fun e w' => e = .returned (stv x) ∧ Below w.heap.size w w' := by
  go_enter Try.func19, Try.ntmps19
  go_wp2_with fail
  (try simp only [Exit.inBlock, Exit.then])
  exact bodyPost_ret (results_cell_row rfl _ _ w.heap.size 53 _ _ _ rfl (heap_alloc_new w _) Try.underlying53 rfl (by kernel_rfl)) rfl ⟨rfl, below_alloc w _⟩
theorem number_any (s : Int) (w : World) (h0 : 0 ≤ s) (h1 : s < 18446744073709551616) : Calls Try.prog 25 #[stv s] w fun e w' => e = .returned (.int .u64 s) ∧ Below w.heap.size w w' := by
  unfold stv
  go_enter Try.func25, Try.ntmps25
  go_wp2_with fail
  go_ret
  exact ⟨ret_int (join_words s h0 h1), below_alloc w _⟩
theorem add32_any (x y c : Int) (w : World) (h0 : 0 ≤ x) (h1 : x < 4294967296) (h2 : 0 ≤ y) (h3 : y < 4294967296) (h4 : 0 ≤ c) (h5 : c ≤ 1) : Calls Try.prog 27 #[.int .u32 x, .int .u32 y, .int .u32 c] w fun e w' => e = .returned (.tuple #[.int .u32 ((x + y + c) % 4294967296), .int .u32 ((x + y + c) / 4294967296)]) ∧ w' = w := by
  go_enter Try.func27, Try.ntmps27
  go_wp2_with fail
  go_ret2
  exact ⟨rfl, rfl⟩
end Go.Proofs.Ytihlhidpiehehaa
