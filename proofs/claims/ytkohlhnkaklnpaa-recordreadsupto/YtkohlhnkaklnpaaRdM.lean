import Derived.Test.YtkohlhnkaklnpaaRdN
/-
  RecordReads: the second turn of Walk.
-/
namespace Go.Proofs.Ytkohlhnkaklnpaa
open Go.RowKit Go.Shelf
attribute [local go_sem] Oper.semAt_some
set_option maxRecDepth 100000
set_option maxHeartbeats 16000000 in
theorem turn1 {w0 W : World} {stop : Int} {A : Act} {b : List UInt8} {ds : List (List UInt8)} {tB qB aB bW bx KK : Nat} {va vo vk l0 : Value} {Zg : Nat → Prop} {dd : List Deferred} {Kn : Act → World → Prop} {Qx : Exit → Act → World → Prop} (hTT : Rc.Told b ds KK) (hT0 : (Rc.get (b.drop KK)).2 = 0) (hbl : b.length ≤ 1048576) (hnv : NilOr vo)
    (hg : Keeps Zg W (Sg stop b w0 aB bW bx va vo ds)) (hq : W.heap[qB]? = some (.cells #[.int .i64 1] 3 (0, 0))) (ht : W.heap[tB]? = some (.cells #[l0, .slice none 0 0] 56 (0, 0))) (dtg : ¬ Zg tB) (hqt : qB ≠ tB) (hsl : Sl w0 A vk aB bW tB qB dd)
    (hn : ∀ (A' : Act) (W' : World) (D qB' : Nat) (lt : Value) (us : List Value) (ds' : List (List UInt8)), Pt 1 b ds tB (fun x => #[l0, x]) W W' D qB' lt us ds' → Sl w0 A' vk aB bW tB qB' (mark D :: dd) → Kn A' W') : turnC.wp Try.prog (Exit.then Kn Qx) A W := by
  obtain ⟨hs, hd, h3, h4, h5, h24, h38, h41, h42⟩ := hsl
  obtain ⟨s, eA, hsk⟩ := act_open A _ hs hd
  rw [hsk] at h3 h4 h5 h24 h38 h41 h42
  rw [eA, h3, h4, h5, h24, h38, h41, h42]
  clear eA hsk h3 h4 h5 h24 h38 h41 h42 hs hd
  have cq : W.cell? ⟨qB, 0, none⟩ = some (.int .i64 1) := (cell_of_row _ _ 0 _ 3 (0, 0) hq).trans rfl
  have HH := hide (And.intro hTT (And.intro hT0 (And.intro hg (And.intro hq (And.intro ht (And.intro dtg hqt))))))
  have HNN := hide hn
  clear hTT hT0 hg hq ht dtg hqt hn
  conv => arg 2; whnf
  refine wp_seq_k (fun K0 hK0 => ?_)
  have HK0 := hide hK0
  clear hK0
  go_wp2_with fail
  refine HK0.out _ _ ?_
  clear HK0 K0
  refine wp_seq_k (fun KB hKB => ?_)
  have HKB := hide hKB
  clear hKB
  refine wp_block ?_
  -- the boxes
  have hW1 : Below W.heap.size W ((W.alloc (.cells #[.int .i64 0] 3)).alloc (.cells #[.int .i64 0] 3)) := ((Below.refl _ W).alloc (Nat.le_refl _) _).alloc (by simp) _
  have bI : ((W.alloc (.cells #[.int .i64 0] 3)).alloc (.cells #[.int .i64 0] 3)).heap[W.heap.size]? = some (.cells #[.int .i64 0] 3 (0, 0)) := (heap_alloc_old _ _ (by simp)).trans (heap_alloc_new W _)
  have bP : ((W.alloc (.cells #[.int .i64 0] 3)).alloc (.cells #[.int .i64 0] 3)).heap[W.heap.size + 1]? = some (.cells #[.int .i64 0] 3 (0, 0)) := by
    have := heap_alloc_new (W.alloc (.cells #[.int .i64 0] 3)) (.cells #[.int .i64 0] 3)
    simpa using this
  have sZ : ((W.alloc (.cells #[.int .i64 0] 3)).alloc (.cells #[.int .i64 0] 3)).heap.size = W.heap.size + 2 := by simp
  have cw : ∀ o o', ((W.alloc o).alloc o').cell? ⟨bW, 0, none⟩ = some (.func (.func 32) #[] #[.pointer (some ⟨bx, 0, none⟩)]) := fun o o' => by
    have h := HH.out.2.2.1.here.2.2.1
    have hb : Below W.heap.size W ((W.alloc o).alloc o') := ((Below.refl _ W).alloc (Nat.le_refl _) _).alloc (by simp) _
    exact (hb.cell (p := ⟨bW, 0, none⟩) (lt_of_block h)).trans ((cell_of_row _ _ 0 _ 45 (0, 0) h).trans rfl)
  have HW1 := hide (And.intro hW1 (And.intro bI (And.intro bP sZ)))
  clear hW1 bI bP sZ cq
  go_wp2_with fail
  generalize (W.alloc (.cells #[.int .i64 0] 3)).alloc (.cells #[.int .i64 0] 3) = wS at *
  obtain ⟨hTT, hT0, hg, hq, ht, dtg, hqt⟩ := HH.out
  obtain ⟨hW1, bI, bP, sZ⟩ := HW1.out
  have hqS : wS.heap[qB]? = some (.cells #[.int .i64 1] 3 (0, 0)) := (hW1.block qB (lt_of_block hq)).trans hq
  have htS : wS.heap[tB]? = some (.cells ((fun x => #[l0, x]) (.slice none 0 0)) 56 (0, 0)) := (hW1.block tB (lt_of_block ht)).trans ht
  have ltq := lt_of_block hq
  have ltt := lt_of_block ht
  have hgS := hg.later hW1
  have hsf : Keeps (fun k => Zg k ∨ k = qB) wS (Sf 1 stop b w0 qB aB bW bx va vo ds) := (hgS.and (Z' := fun k => k = qB) (P' := fun V => V.heap[qB]? = some (.cells #[.int .i64 1] 3 (0, 0))) ⟨fun k e => by rw [e]; exact lt_of_block hqS, fun V _ hv => (hv qB rfl).trans hqS⟩).imp (fun V h => ⟨h.2, h.1⟩)
  have hz : ∀ k, (Zg k ∨ k = qB) → ¬ Bx W.heap.size (W.heap.size + 1) tB k := fun k e e' => by
    have hk : k < W.heap.size := e.elim (hg.1 k) (fun h => by rw [h]; exact ltq)
    rcases e' with e' | e' | e'
    · omega
    · omega
    · rcases e with e | e
      · rw [e'] at e; exact dtg e
      · omega
  have hne : W.heap.size ≠ W.heap.size + 1 ∧ W.heap.size ≠ tB ∧ W.heap.size + 1 ≠ tB ∧ W.heap.size < wS.heap.size ∧ W.heap.size + 1 < wS.heap.size ∧ tB < wS.heap.size := ⟨by omega, by omega, by omega, by omega, by omega, by omega⟩
  have hvo : ∀ dx V, Ti b W.heap.size (W.heap.size + 1) tB (fun x => #[l0, x]) wS dx V → Bs V vo b ∧ V.cell? ⟨bx, 0, none⟩ = some vo := fun dx V h => by
    obtain ⟨_, _, _, _, _, _, _, _, _, hm⟩ := h
    have := (hsf.mv hm hz).here
    exact ⟨own_bs this.2.2.2.2.2, (cell_of_row V bx 0 _ 22 (0, 0) this.2.2.2.2.1).trans rfl⟩
  have hI0 : Ti b W.heap.size (W.heap.size + 1) tB (fun x => #[l0, x]) wS [] wS := ⟨0, .slice none 0 0, [], Rc.Told.none, bI, bP, htS, World.ownsRow_nil _ _ _ _, Pieces.nil _ _, Mv.refl _ _⟩
  have HS := hide (And.intro hsf (And.intro hz (And.intro hne sZ)))
  -- what follows the round
  have fin : ∀ (V : World) (D : Nat) (dx : List (List UInt8)), Ti b W.heap.size (W.heap.size + 1) tB (fun x => #[l0, x]) wS dx V → (1 = 1 → dx = ds) → wS.heap.size ≤ D → V.heap[D]? = some (.deferred (some [])) → ∀ (V' : World) (qB' : Nat), Below V.heap.size V V' → V.heap.size ≤ qB' → V'.heap[qB']? = some (.cells #[.int .i64 ((1 : Int) + 1)] 3 (0, 0)) → ∃ lt us, Pt 1 b ds tB (fun x => #[l0, x]) W V' D qB' lt us dx := by
    intro V D dx hti hdx hD hdef V' qB' hb' hqV hq'
    obtain ⟨kk, lt, us, t1, t2, t3, t4, t5, t6, t7⟩ := hti.on hb'
    refine ⟨lt, us, ?_, t4, own_low t5 (by omega), pieces_low t6 (by omega), ⟨kk, t1⟩, hdx, (hb'.block D (lt_of_block hdef)).trans hdef, by omega, hq', ?_⟩
    · exact ⟨t7.1.trans hW1.os, t7.2.1.trans hW1.tape, t7.2.2.1.trans hW1.output, Nat.le_trans hW1.size t7.2.2.2.1, fun k hk hs => (t7.2.2.2.2 k (by omega) (fun e => by
        rcases e with e | e | e
        · omega
        · omega
        · exact hs e)).trans (hW1.block k hk)⟩
    · have := hti
      obtain ⟨_, _, _, _, _, _, _, _, _, hm⟩ := hti
      have := hm.2.2.2.1
      omega
  have FIN := hide fin
  have fkb : ∀ (A' : Act) (V : World) (D : Nat) (dx : List (List UInt8)), Ti b W.heap.size (W.heap.size + 1) tB (fun x => #[l0, x]) wS dx V → (1 = 1 → dx = ds) → wS.heap.size ≤ D → V.heap[D]? = some (.deferred (some [])) → Sl w0 A' vk aB bW tB qB (mark D :: dd) → KB A' V := by
    intro A' V D dx hti hdx hD hdef ⟨hs, hd, h3, h4, h5, h24, h38, h41, h42⟩
    have hf := FIN.out V D dx hti hdx hD hdef
    have sfV : Sf 1 stop b w0 qB aB bW bx va vo ds V := by
      obtain ⟨_, _, _, _, _, _, _, _, _, hm⟩ := hti
      exact (hsf.mv hm hz).here
    have cqV : V.cell? ⟨qB, 0, none⟩ = some (.int .i64 1) := (cell_of_row _ _ 0 _ 3 (0, 0) sfV.1).trans rfl
    obtain ⟨s', eA, hsk⟩ := act_open A' _ hs hd
    rw [hsk] at h3 h4 h5 h24 h38 h41 h42
    refine HKB.out _ _ ?_
    rw [eA, h3, h4, h5, h24, h38, h41, h42]
    have HF := hide hf
    have HNN2 := hide HNN.out
    clear eA hsk h3 h4 h5 h24 h38 h41 h42 hs hd hf sfV hti hdef hD hdx fin FIN HKB HNN HS hsf hz hne hvo hI0 hgS htS hqS bI bP HW1 hW1 HH hTT hT0 hg hq ht dtg hqt sZ cw
    go_wp2_with fail
    obtain ⟨lt, us, hpt⟩ := HF.out _ V.heap.size ((Below.refl _ V).alloc (Nat.le_refl _) (.cells #[.int .i64 2] 3)) (Nat.le_refl _) (by rw [show ((1 : Int) + 1) = 2 from rfl]; exact Array.getElem?_push_size)
    refine HNN2.out _ _ D V.heap.size lt us dx hpt ⟨rfl, rfl, rfl, rfl, rfl, rfl, rfl, rfl, rfl⟩
  have FKB := hide fkb
  clear fin fkb
  have HV := hide hvo
  have HI0 := hide hI0
  have HT := hide (And.intro hTT hT0)
  clear hvo hI0 hTT hT0 hsf hz hne hgS htS hqS bI bP hW1 hg hq ht dtg hqt sZ cw ltq ltt
  refine (wpIn_wide (n := 6)).1 ?_
  apply range_toldH (a₁ := fun k v => { tmps := #[s 0, s 1, s 2, .pointer (some ⟨w0.heap.size, 0, none⟩), .pointer (some ⟨w0.heap.size + 1, 0, none⟩), vk, s 6, s 7, s 8, s 9, s 10, s 11, s 12, s 13, s 14, s 15, s 16, s 17, s 18, s 19, s 20, s 21, s 22, s 23, .pointer (some ⟨aB, 0, none⟩), s 25, s 26, s 27, s 28, s 29, s 30, s 31, s 32, s 33, s 34, s 35, s 36, s 37, .pointer (some ⟨bW, 0, none⟩), s 39, s 40, .pointer (some ⟨tB, 0, none⟩), .pointer (some ⟨qB, 0, none⟩), .pointer (some ⟨W.heap.size, 0, none⟩), .pointer (some ⟨W.heap.size + 1, 0, none⟩), .int .i64 (k : Nat), v, s 47, s 48, s 49, s 50, s 51, s 52, s 53, s 54, s 55, s 56, s 57, s 58, s 59, s 60, s 61, s 62, s 63, s 64, s 65, s 66, s 67, s 68, s 69, s 70, s 71, s 72, s 73, s 74, s 75, s 76, s 77, s 78, s 79, s 80, s 81, s 82, s 83, s 84, s 85, s 86, s 87, s 88, s 89, s 90, s 91, s 92, s 93, s 94, s 95, s 96, s 97, s 98, s 99, s 100, s 101, s 102, s 103, s 104, s 105, s 106, s 107, s 108, s 109, s 110, s 111, s 112, s 113, s 114, s 115, s 116, s 117, s 118, s 119, s 120, s 121, s 122, s 123, s 124, s 125, s 126, s 127, s 128, s 129, s 130, s 131, s 132, s 133, s 134, s 135, s 136, s 137, s 138, s 139, s 140, s 141, s 142, s 143, s 144, s 145, s 146, s 147, s 148, s 149, s 150, s 151, s 152, s 153, s 154, s 155, s 156, s 157, s 158, s 159, s 160, s 161, s 162, s 163, s 164, s 165, s 166, s 167, s 168, s 169, s 170, s 171, s 172, s 173, s 174, s 175, s 176, s 177, s 178, s 179, s 180, s 181, s 182, s 183, s 184, s 185, s 186, s 187, s 188, s 189, s 190, s 191, s 192, s 193, s 194, s 195, s 196, s 197, s 198, s 199, s 200, s 201, s 202, s 203, s 204, s 205, s 206, s 207, s 208, s 209, s 210, s 211, s 212, s 213, s 214, s 215, s 216, s 217, s 218, s 219, s 220, s 221, s 222, s 223, s 224, s 225, s 226, s 227, s 228, s 229, s 230, s 231, s 232, s 233, s 234, s 235, s 236, s 237, s 238, s 239, s 240, s 241, s 242, s 243, s 244, s 245, s 246, s 247, s 248, s 249, s 250, s 251, s 252, s 253, s 254, s 255, s 256, s 257, s 258, s 259, s 260, s 261, s 262, s 263, s 264, s 265, s 266, s 267, s 268, s 269, s 270, s 271, s 272, s 273, s 274, s 275, s 276, s 277, s 278, s 279, s 280, s 281, s 282, s 283, s 284, s 285, s 286, s 287, s 288, s 289, s 290, s 291, s 292, s 293, s 294, s 295, s 296, s 297, s 298, s 299, s 300, s 301, s 302, s 303, s 304, s 305, s 306, s 307, s 308, s 309, s 310, s 311, s 312, s 313, s 314, s 315, s 316, s 317, s 318, s 319, s 320, s 321, s 322, s 323, s 324, s 325, s 326, s 327, s 328, s 329, .int .i64 1, .bool true, s 332, s 333, .func (.func 32) #[] #[.pointer (some ⟨bx, 0, none⟩)], .int .i64 (k : Nat), v, s 337, s 338, s 339, s 340, s 341, s 342, s 343, s 344, s 345, s 346, s 347, s 348, s 349, s 350, s 351, s 352, s 353, s 354, s 355, s 356, s 357, s 358, s 359, s 360, s 361, s 362, s 363, s 364, s 365, s 366, s 367, s 368, s 369, s 370, s 371, s 372, s 373, s 374, s 375, s 376, s 377, s 378, s 379, s 380, s 381, s 382, s 383, s 384, s 385, s 386, s 387, s 388, s 389, s 390, s 391, s 392, s 393, s 394, s 395, s 396, s 397, s 398, s 399, s 400, s 401, s 402, s 403, s 404, s 405, s 406, s 407, s 408, s 409, s 410, s 411, s 412, s 413, s 414, s 415, s 416, s 417, s 418, s 419, s 420, s 421, s 422, s 423, s 424, s 425, s 426, s 427, s 428, s 429, s 430, s 431, s 432, s 433, s 434, s 435, s 436, s 437, s 438, s 439, s 440, s 441, s 442, s 443, s 444, s 445, s 446, s 447, s 448, s 449, s 450, s 451, s 452, s 453, s 454, s 455, s 456, s 457, s 458, s 459, s 460, s 461, s 462, s 463], defers := [] }) bx vo b rfl rfl hnv (Ti b W.heap.size (W.heap.size + 1) tB (fun x => #[l0, x]) wS) (fun _ _ _ => False) HV.out Ti.own (fun _ _ _ _ _ h _ _ => h) HI0.out
  case hassign =>
    intro l k v V K hK
    gi_wp2
    exact hK
  case hbody =>
    intro l dx k v V1 V hl hnc hlp hi hgr ht2 hz2 hp2
    obtain ⟨hTT, hT0⟩ := HT.out
    obtain ⟨hsf, hz, hne, sZ⟩ := HS.out
    have hlg := get_len (b.drop k)
    rw [List.length_drop] at hlg
    have hM : wS.heap.size ≤ V1.heap.size := by
      obtain ⟨_, _, _, _, _, _, _, _, _, hm⟩ := hi
      exact hm.2.2.2.1
    exact body1 hTT hT0 hsf hz hne ⟨.inr rfl, trivial⟩ (hi.tm hgr (fun r e => by cases e; exact ⟨hl, hnc⟩)) ht2 hz2 rfl hp2 hM (by omega) hbl hlp hnv rfl rfl rfl rfl rfl rfl rfl rfl rfl rfl rfl rfl
  case hdone =>
    intro D dx k V hD ht2 hz2 hi2 hdef
    obtain ⟨hTT, hT0⟩ := HT.out
    obtain ⟨hsf, hz, hne, sZ⟩ := HS.out
    obtain ⟨rfl, _⟩ := Rc.told_same _ _ _ _ _ ht2 hz2 hTT hT0
    have HE := hide (fun (A' : Act) => FKB.out A' V D dx hi2 (fun _ => rfl) hD hdef)
    have sfV : Sf 1 stop b w0 qB aB bW bx va vo dx V := by
      obtain ⟨_, _, _, _, _, _, _, _, _, hm⟩ := hi2
      exact (hsf.mv hm hz).here
    obtain ⟨aa, ca, rfl, hca1, hca2⟩ := sfV.2.2.1.form
    have cqV : V.cell? ⟨qB, 0, none⟩ = some (.int .i64 1) := (cell_of_row _ _ 0 _ 3 (0, 0) sfV.1).trans rfl
    have csV : V.cell? ⟨w0.heap.size, 0, none⟩ = some (.int .i64 stop) := (cell_of_row _ _ 0 _ 3 (0, 0) sfV.2.1).trans rfl
    have cbV := sfV.2.2.1.box
    have ciV : V.cell? ⟨W.heap.size, 0, none⟩ = some (.int .i64 (dx.length : Nat)) := by
      obtain ⟨_, _, _, _, h2, _⟩ := hi2
      exact (cell_of_row _ _ 0 _ 3 (0, 0) h2).trans rfl
    have z1 : ((dx.length : Int) != (dx.length : Int)) = false := by simp
    generalize dx.length = nn at ciV cbV z1 hca1
    clear sfV hi2 ht2 hz2 hdef HS hsf hz hne HV HI0 HT HW1 HH hTT hT0 sZ FIN HNN HKB FKB
    go_wp2_with fail
    exact HE.out _ ⟨rfl, rfl, rfl, rfl, rfl, rfl, rfl, rfl, rfl⟩
  case hstop =>
    intro D c dx V _ h _
    exact h.elim
end Go.Proofs.Ytkohlhnkaklnpaa
