/-
  RecordReads: what its walk stands on: the frame, pieces of the code, what stays.
-/
import Derived.Test.YtkohlhnkaklnpaaWalk3
import Derived.Test.YtkohlhnkaklnpaaOuter
import Derived.Test.YtkohlhnkaklnpaaSets
import Derived.Test.YtkohlhnkaklnpaaKeepL
import Derived.Test.YtkohlhnkaklnpaaAppLl
import Derived.Test.YtkohlhnkaklnpaaLooks
import Derived.Test.YtkohlhnkaklnpaaStill
import Derived.Test.YtkohlhnkaklnpaaRefScan
import Derived.Deep.LoopGhost
import Derived.Deep.RegionHeld3
import Derived.Deep.CutBlock
import Derived.Deep.DeepCutAuto
import Derived.Deep.QuietTactic
import Derived.BigQuiet
namespace Go.Proofs.Ytkohlhnkaklnpaa
open Go.RowKit Go.Shelf
noncomputable def body16 : Code := (Try.f16.body.getD .skip)
/-- What stands behind so many statements. -/
def tailN : Nat → Code → Code
  | 0, c => c
  | n + 1, .seq _ b => tailN n b
  | _, c => c
def rdF (ds : List Deferred) (s : Nat → Value) : Act := { tmps := ((List.range 464).map s).toArray, defers := ds }
set_option maxRecDepth 100000 in
theorem rdF_lit (ds : List Deferred) (s : Nat → Value) : rdF ds s = { tmps := #[s 0, s 1, s 2, s 3, s 4, s 5, s 6, s 7, s 8, s 9, s 10, s 11, s 12, s 13, s 14, s 15, s 16, s 17, s 18, s 19, s 20, s 21, s 22, s 23, s 24, s 25, s 26, s 27, s 28, s 29, s 30, s 31, s 32, s 33, s 34, s 35, s 36, s 37, s 38, s 39, s 40, s 41, s 42, s 43, s 44, s 45, s 46, s 47, s 48, s 49, s 50, s 51, s 52, s 53, s 54, s 55, s 56, s 57, s 58, s 59, s 60, s 61, s 62, s 63, s 64, s 65, s 66, s 67, s 68, s 69, s 70, s 71, s 72, s 73, s 74, s 75, s 76, s 77, s 78, s 79, s 80, s 81, s 82, s 83, s 84, s 85, s 86, s 87, s 88, s 89, s 90, s 91, s 92, s 93, s 94, s 95, s 96, s 97, s 98, s 99, s 100, s 101, s 102, s 103, s 104, s 105, s 106, s 107, s 108, s 109, s 110, s 111, s 112, s 113, s 114, s 115, s 116, s 117, s 118, s 119, s 120, s 121, s 122, s 123, s 124, s 125, s 126, s 127, s 128, s 129, s 130, s 131, s 132, s 133, s 134, s 135, s 136, s 137, s 138, s 139, s 140, s 141, s 142, s 143, s 144, s 145, s 146, s 147, s 148, s 149, s 150, s 151, s 152, s 153, s 154, s 155, s 156, s 157, s 158, s 159, s 160, s 161, s 162, s 163, s 164, s 165, s 166, s 167, s 168, s 169, s 170, s 171, s 172, s 173, s 174, s 175, s 176, s 177, s 178, s 179, s 180, s 181, s 182, s 183, s 184, s 185, s 186, s 187, s 188, s 189, s 190, s 191, s 192, s 193, s 194, s 195, s 196, s 197, s 198, s 199, s 200, s 201, s 202, s 203, s 204, s 205, s 206, s 207, s 208, s 209, s 210, s 211, s 212, s 213, s 214, s 215, s 216, s 217, s 218, s 219, s 220, s 221, s 222, s 223, s 224, s 225, s 226, s 227, s 228, s 229, s 230, s 231, s 232, s 233, s 234, s 235, s 236, s 237, s 238, s 239, s 240, s 241, s 242, s 243, s 244, s 245, s 246, s 247, s 248, s 249, s 250, s 251, s 252, s 253, s 254, s 255, s 256, s 257, s 258, s 259, s 260, s 261, s 262, s 263, s 264, s 265, s 266, s 267, s 268, s 269, s 270, s 271, s 272, s 273, s 274, s 275, s 276, s 277, s 278, s 279, s 280, s 281, s 282, s 283, s 284, s 285, s 286, s 287, s 288, s 289, s 290, s 291, s 292, s 293, s 294, s 295, s 296, s 297, s 298, s 299, s 300, s 301, s 302, s 303, s 304, s 305, s 306, s 307, s 308, s 309, s 310, s 311, s 312, s 313, s 314, s 315, s 316, s 317, s 318, s 319, s 320, s 321, s 322, s 323, s 324, s 325, s 326, s 327, s 328, s 329, s 330, s 331, s 332, s 333, s 334, s 335, s 336, s 337, s 338, s 339, s 340, s 341, s 342, s 343, s 344, s 345, s 346, s 347, s 348, s 349, s 350, s 351, s 352, s 353, s 354, s 355, s 356, s 357, s 358, s 359, s 360, s 361, s 362, s 363, s 364, s 365, s 366, s 367, s 368, s 369, s 370, s 371, s 372, s 373, s 374, s 375, s 376, s 377, s 378, s 379, s 380, s 381, s 382, s 383, s 384, s 385, s 386, s 387, s 388, s 389, s 390, s 391, s 392, s 393, s 394, s 395, s 396, s 397, s 398, s 399, s 400, s 401, s 402, s 403, s 404, s 405, s 406, s 407, s 408, s 409, s 410, s 411, s 412, s 413, s 414, s 415, s 416, s 417, s 418, s 419, s 420, s 421, s 422, s 423, s 424, s 425, s 426, s 427, s 428, s 429, s 430, s 431, s 432, s 433, s 434, s 435, s 436, s 437, s 438, s 439, s 440, s 441, s 442, s 443, s 444, s 445, s 446, s 447, s 448, s 449, s 450, s 451, s 452, s 453, s 454, s 455, s 456, s 457, s 458, s 459, s 460, s 461, s 462, s 463], defers := ds } := by
  unfold rdF
  rfl
theorem act_eta (A : Act) (ds : List Deferred) (hs : A.tmps.size = 464) (hd : A.defers = ds) : A = rdF ds (fun k => A.tmps.getD k undef) := by
  obtain ⟨t, d⟩ := A
  dsimp only at hs hd
  subst hd
  unfold rdF
  congr 1
  apply Array.ext
  · rw [hs]; simp
  · intro i h1 h2
    dsimp only
    have e : ∀ h, ((List.range 464).map (fun k => t.getD k undef)).toArray[i]'h = t.getD i undef := fun h => by simp
    rw [e, Array.getD_eq_getD_getElem?, Array.getElem?_eq_getElem h1]
    rfl
set_option maxRecDepth 100000 in
theorem act_open (A : Act) (ds : List Deferred) (hs : A.tmps.size = 464) (hd : A.defers = ds) : ∃ s : Nat → Value, A = { tmps := #[s 0, s 1, s 2, s 3, s 4, s 5, s 6, s 7, s 8, s 9, s 10, s 11, s 12, s 13, s 14, s 15, s 16, s 17, s 18, s 19, s 20, s 21, s 22, s 23, s 24, s 25, s 26, s 27, s 28, s 29, s 30, s 31, s 32, s 33, s 34, s 35, s 36, s 37, s 38, s 39, s 40, s 41, s 42, s 43, s 44, s 45, s 46, s 47, s 48, s 49, s 50, s 51, s 52, s 53, s 54, s 55, s 56, s 57, s 58, s 59, s 60, s 61, s 62, s 63, s 64, s 65, s 66, s 67, s 68, s 69, s 70, s 71, s 72, s 73, s 74, s 75, s 76, s 77, s 78, s 79, s 80, s 81, s 82, s 83, s 84, s 85, s 86, s 87, s 88, s 89, s 90, s 91, s 92, s 93, s 94, s 95, s 96, s 97, s 98, s 99, s 100, s 101, s 102, s 103, s 104, s 105, s 106, s 107, s 108, s 109, s 110, s 111, s 112, s 113, s 114, s 115, s 116, s 117, s 118, s 119, s 120, s 121, s 122, s 123, s 124, s 125, s 126, s 127, s 128, s 129, s 130, s 131, s 132, s 133, s 134, s 135, s 136, s 137, s 138, s 139, s 140, s 141, s 142, s 143, s 144, s 145, s 146, s 147, s 148, s 149, s 150, s 151, s 152, s 153, s 154, s 155, s 156, s 157, s 158, s 159, s 160, s 161, s 162, s 163, s 164, s 165, s 166, s 167, s 168, s 169, s 170, s 171, s 172, s 173, s 174, s 175, s 176, s 177, s 178, s 179, s 180, s 181, s 182, s 183, s 184, s 185, s 186, s 187, s 188, s 189, s 190, s 191, s 192, s 193, s 194, s 195, s 196, s 197, s 198, s 199, s 200, s 201, s 202, s 203, s 204, s 205, s 206, s 207, s 208, s 209, s 210, s 211, s 212, s 213, s 214, s 215, s 216, s 217, s 218, s 219, s 220, s 221, s 222, s 223, s 224, s 225, s 226, s 227, s 228, s 229, s 230, s 231, s 232, s 233, s 234, s 235, s 236, s 237, s 238, s 239, s 240, s 241, s 242, s 243, s 244, s 245, s 246, s 247, s 248, s 249, s 250, s 251, s 252, s 253, s 254, s 255, s 256, s 257, s 258, s 259, s 260, s 261, s 262, s 263, s 264, s 265, s 266, s 267, s 268, s 269, s 270, s 271, s 272, s 273, s 274, s 275, s 276, s 277, s 278, s 279, s 280, s 281, s 282, s 283, s 284, s 285, s 286, s 287, s 288, s 289, s 290, s 291, s 292, s 293, s 294, s 295, s 296, s 297, s 298, s 299, s 300, s 301, s 302, s 303, s 304, s 305, s 306, s 307, s 308, s 309, s 310, s 311, s 312, s 313, s 314, s 315, s 316, s 317, s 318, s 319, s 320, s 321, s 322, s 323, s 324, s 325, s 326, s 327, s 328, s 329, s 330, s 331, s 332, s 333, s 334, s 335, s 336, s 337, s 338, s 339, s 340, s 341, s 342, s 343, s 344, s 345, s 346, s 347, s 348, s 349, s 350, s 351, s 352, s 353, s 354, s 355, s 356, s 357, s 358, s 359, s 360, s 361, s 362, s 363, s 364, s 365, s 366, s 367, s 368, s 369, s 370, s 371, s 372, s 373, s 374, s 375, s 376, s 377, s 378, s 379, s 380, s 381, s 382, s 383, s 384, s 385, s 386, s 387, s 388, s 389, s 390, s 391, s 392, s 393, s 394, s 395, s 396, s 397, s 398, s 399, s 400, s 401, s 402, s 403, s 404, s 405, s 406, s 407, s 408, s 409, s 410, s 411, s 412, s 413, s 414, s 415, s 416, s 417, s 418, s 419, s 420, s 421, s 422, s 423, s 424, s 425, s 426, s 427, s 428, s 429, s 430, s 431, s 432, s 433, s 434, s 435, s 436, s 437, s 438, s 439, s 440, s 441, s 442, s 443, s 444, s 445, s 446, s 447, s 448, s 449, s 450, s 451, s 452, s 453, s 454, s 455, s 456, s 457, s 458, s 459, s 460, s 461, s 462, s 463], defers := ds } ∧ ∀ k, A.tmps.getD k undef = s k :=
  ⟨fun k => A.tmps.getD k undef, (act_eta A ds hs hd).trans (rdF_lit ds _), fun _ => rfl⟩
/-- What hangs on these blocks alone. -/
def Keeps (Z : Nat → Prop) (W : World) (P : World → Prop) : Prop := (∀ k, Z k → k < W.heap.size) ∧ ∀ W' : World, W.heap.size ≤ W'.heap.size → (∀ k, Z k → W'.heap[k]? = W.heap[k]?) → P W'
section
variable {W W' : World} {Z Z' S : Nat → Prop} {P P' : World → Prop}
theorem Keeps.here (h : Keeps Z W P) : P W := h.2 W (Nat.le_refl _) (fun _ _ => rfl)
theorem Keeps.mv (h : Keeps Z W P) (hm : Mv W W' S) (hd : ∀ k, Z k → ¬ S k) : Keeps Z W' P :=
  ⟨fun k hk => Nat.lt_of_lt_of_le (h.1 k hk) hm.2.2.2.1, fun V hs hv => h.2 V (Nat.le_trans hm.2.2.2.1 hs) (fun k hk => (hv k hk).trans (hm.2.2.2.2 k (h.1 k hk) (hd k hk)))⟩
theorem Keeps.later (h : Keeps Z W P) (hb : Below W.heap.size W W') : Keeps Z W' P := h.mv (Mv.of hb) (fun _ _ e => e)
theorem Keeps.and (h : Keeps Z W P) (h' : Keeps Z' W P') : Keeps (fun k => Z k ∨ Z' k) W (fun V => P V ∧ P' V) :=
  ⟨fun k hk => hk.elim (h.1 k) (h'.1 k), fun V hs hv => ⟨h.2 V hs (fun k hk => hv k (.inl hk)), h'.2 V hs (fun k hk => hv k (.inr hk))⟩⟩
theorem Keeps.imp (h : Keeps Z W P) (hi : ∀ V, P V → P' V) : Keeps Z W P' := ⟨h.1, fun V hs hv => hi V (h.2 V hs hv)⟩
end
/-- From one block up to another. -/
def Iv (a b : Nat) : Nat → Prop := fun k => a ≤ k ∧ k < b
/-- The two boxes: w0: the world ahead of the call. -/
def St (w0 wA : World) (stop : Int) : Prop := Below w0.heap.size w0 wA ∧ wA.heap[w0.heap.size]? = some (.cells #[.int .i64 stop] 3 (0, 0)) ∧ wA.heap[w0.heap.size + 1]? = some (.cells #[.bool false] 4 (0, 0)) ∧ wA.heap.size = w0.heap.size + 2
section
variable {w0 wA W W' : World} {stop : Int}
theorem St.down (h : St w0 wA stop) (hb : Below wA.heap.size wA W) : Below w0.heap.size w0 W := h.1.trans (hb.mono h.1.size)
theorem St.halt (h : St w0 wA stop) (hb : Below wA.heap.size wA W) : W.heap[w0.heap.size]? = some (.cells #[.int .i64 stop] 3 (0, 0)) := (hb.block _ (by have := h.2.2.2; omega)).trans h.2.1
theorem St.res (h : St w0 wA stop) (hb : Below wA.heap.size wA W) : W.heap[w0.heap.size + 1]? = some (.cells #[.bool false] 4 (0, 0)) := (hb.block _ (by have := h.2.2.2; omega)).trans h.2.2.1
end
def Post (w0 : World) : Ending → World → Prop := fun e w' => e = .returned (.bool true) ∧ Below w0.heap.size w0 w'
def QR (w0 : World) : Exit → Act → World → Prop := bodyPostM Fence.wide 6 Try.prog Try.f16 (Post w0)
def mark (D : Nat) : Deferred := { target := .collected D, args := #[] }
theorem Kz.wider {w : World} {B nk nk' : Nat} {K K' : Nat → Prop} {vk : Value} (h : Kz w B nk K vk) (hn : nk ≤ nk') (hK : ∀ k, K k → K' k) (hb : ∀ k, K' k → B ≤ k ∧ k < w.heap.size) : Kz w B nk' K' vk := by
  obtain ⟨hs, h1, h3, h4, h5, h6⟩ := h
  exact ⟨hs, h1, Nat.le_trans h3 hn, fun k e => hK k (h4 k e), fun x hx k e => hK k (h5 x hx k e), hb⟩
theorem Kz.mv {w w' : World} {B nk : Nat} {K S : Nat → Prop} {vk : Value} (h : Kz w B nk K vk) (hm : Mv w w' S) (hd : ∀ k, K k → ¬ S k) : Kz w' B nk K vk :=
  h.frame hm.2.2.2.1 (fun k e => hm.2.2.2.2 k (h.lt k e).2 (hd k e))
theorem Kz.form {w : World} {B nk : Nat} {K : Nat → Prop} {vk : Value} (h : Kz w B nk K vk) : ∃ a n c, vk = .slice a n c := by
  obtain ⟨hs, ⟨h1, _⟩, _⟩ := h
  obtain ⟨a, c, e⟩ := own_len h1
  exact ⟨a, _, c, e⟩
end Go.Proofs.Ytkohlhnkaklnpaa
