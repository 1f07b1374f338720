import Derived.Test.YtmfoehaeejhlpaaGreatDoorGaAY
import Derived.Laws.ResultCell
/-
  What is well formed: roles, shapes.
-/
namespace Go.Proofs.YtmfoehaeejhlpaaGreatDoor
open Go.RowKit Yn
set_option maxRecDepth 100000
/-- What a child's role takes. -/
def tkP (r op : Nat) (t : ByteArray) : Prop :=
  (r = 1 ∧ (op = 2 ∨ op = 4)) ∨ (r = 2 ∧ op = 3 ∧ t = bs [119, 105, 116, 104]) ∨ (r = 3 ∧ op = 3 ∧ t = bs [119, 105, 116, 104, 111, 117, 116]) ∨ (r = 4 ∧ op = 3 ∧ t = bs [114, 101, 97, 100, 115]) ∨ (r = 5 ∧ op = 3 ∧ t = bs [119, 114, 105, 116, 101, 115]) ∨ (r = 6 ∧ op = 3 ∧ t = bs [102, 117, 110, 99]) ∨ (r = 7 ∧ op = 31) ∨ (r = 8 ∧ op = 5) ∨ (r = 9 ∧ 10 ≤ op ∧ op ≤ 22) ∨ (r = 10 ∧ (op = 5 ∨ op = 13)) ∨ (r = 11 ∧ op = 23) ∨ (r = 12 ∧ op = 24) ∨ (r = 13 ∧ 30 ≤ op ∧ op ≤ 38)
set_option maxHeartbeats 4000000 in
theorem takes_w {B g r op m c : Nat} {t : ByteArray} {n : Int} {ao : Option Addr} {w : World} (h : tkP r op t) (hce : Ce B w g op t n ao m c) : Calls Tryz.prog 86 #[.int .i64 (r : Int), .pointer (some ⟨g, 0, none⟩)] w fun e w' => e = .returned (.bool true) ∧ w' = w := by
  obtain ⟨-, d0, d1, d2, d3⟩ := hce
  unfold tkP at h
  rcases h with ⟨rfl, h | h⟩ | ⟨rfl, h, h2⟩ | ⟨rfl, h, h2⟩ | ⟨rfl, h, h2⟩ | ⟨rfl, h, h2⟩ | ⟨rfl, h, h2⟩ | ⟨rfl, h⟩ | ⟨rfl, h⟩ | ⟨rfl, h, h2⟩ | ⟨rfl, h | h⟩ | ⟨rfl, h⟩ | ⟨rfl, h⟩ | ⟨rfl, h, h2⟩
  iterate 2 · subst h; go_enter Tryz.func86, Tryz.ntmps86; go_wp2_with fail; go_ret; exact ⟨rfl, rfl⟩
  · have z : (t.toList == [119, 105, 116, 104]) = true := by
      rw [h2]
      unfold bs
      simp
    subst h; clear h2; go_enter Tryz.func86, Tryz.ntmps86; go_wp2_with fail; go_ret; exact ⟨by first | rfl | simp, rfl⟩
  · have z : (t.toList == [119, 105, 116, 104, 111, 117, 116]) = true := by
      rw [h2]
      unfold bs
      simp
    subst h; clear h2; go_enter Tryz.func86, Tryz.ntmps86; go_wp2_with fail; go_ret; exact ⟨by first | rfl | simp, rfl⟩
  · have z : (t.toList == [114, 101, 97, 100, 115]) = true := by
      rw [h2]
      unfold bs
      simp
    subst h; clear h2; go_enter Tryz.func86, Tryz.ntmps86; go_wp2_with fail; go_ret; exact ⟨by first | rfl | simp, rfl⟩
  · have z : (t.toList == [119, 114, 105, 116, 101, 115]) = true := by
      rw [h2]
      unfold bs
      simp
    subst h; clear h2; go_enter Tryz.func86, Tryz.ntmps86; go_wp2_with fail; go_ret; exact ⟨by first | rfl | simp, rfl⟩
  · have z : (t.toList == [102, 117, 110, 99]) = true := by
      rw [h2]
      unfold bs
      simp
    subst h; clear h2; go_enter Tryz.func86, Tryz.ntmps86; go_wp2_with fail; go_ret; exact ⟨by first | rfl | simp, rfl⟩
  iterate 2 · subst h; go_enter Tryz.func86, Tryz.ntmps86; go_wp2_with fail; go_ret; exact ⟨rfl, rfl⟩
  · have k1 : (10 : Int) ≤ (op : Int) := by omega
    have k2 : (op : Int) ≤ 22 := by omega
    have k3 : decide ((op : Int) ≤ 22) = true := by simpa using k2
    go_enter Tryz.func86, Tryz.ntmps86; go_wp2_with fail; go_ret; exact ⟨by first | rfl | simp, rfl⟩
  iterate 4 · subst h; go_enter Tryz.func86, Tryz.ntmps86; go_wp2_with fail; go_ret; exact ⟨rfl, rfl⟩
  · have k1 : (30 : Int) ≤ (op : Int) := by omega
    have k2 : (op : Int) ≤ 38 := by omega
    have k3 : decide ((op : Int) ≤ 38) = true := by simpa using k2
    go_enter Tryz.func86, Tryz.ntmps86; go_wp2_with fail; go_ret; exact ⟨by first | rfl | simp, rfl⟩
def fsL (op : Nat) : List Nat := if op = 2 then [2, 3, 4, 5, 8] else if op = 4 then [6, 8] else if op = 10 then [13] else if op = 11 then [13] else if op = 12 then [7, 13] else if op = 13 then [13, 8] else if op = 14 then [13, 8] else if op = 15 then [13, 8] else if op = 16 then [13, 13] else if op = 18 then [11] else if op = 22 then [13] else if op = 24 then [13] else if op = 32 then [7] else if op = 33 then [13, 13] else if op = 34 then [13] else if op = 35 then [13, 13, 13] else []
def peR (op : Nat) : Nat := if op = 13 then 10 else 0
def maR (op : Nat) : Nat := if op = 1 then 1 else if op = 3 then 7 else if op = 5 then 9 else if op = 17 then 11 else if op = 23 then 12 else if op = 36 then 13 else 0
/-- A shape in memory. -/
def Shp (w : World) (v : Value) (op : Nat) : Prop := ∃ ao, v = .slice ao (fsL op).length (fsL op).length ∧ ∀ i (h : i < (fsL op).length), ∃ q, ao = some ⟨q, 0, none⟩ ∧ w.cell? ⟨q, i, none⟩ = some (.int .i64 ((fsL op)[i] : Int))
theorem Shp.later {w w' : World} {v : Value} {op : Nat} (h : Shp w v op) (hb : Below w.heap.size w w') : Shp w' v op := by
  obtain ⟨ao, rfl, h⟩ := h
  refine ⟨ao, rfl, fun i hi => ?_⟩
  obtain ⟨q, rfl, hq⟩ := h i hi
  exact ⟨q, rfl, (hb.cell (World.block_lt_of_cell? w _ hq)).trans hq⟩
def ShW (op : Nat) : Prop := ∀ w : World, Calls Tryz.prog 84 #[.int .i64 (op : Int)] w fun e w' => (∃ v, e = .returned (.agg #[v, .int .i64 (peR op : Int), .int .i64 (maR op : Int)]) ∧ Shp w' v op) ∧ Below w.heap.size w w'
theorem und139 : (Tryz.prog.underlying 139).map (fun d => match d with | .struct _ | .array _ _ => true | _ => false) = some true := by kernel_rfl
theorem res_sh {fn : Func} {p : Tmp} (hr : fn.results = #[.cell p 139]) {tmps : Array Value} {W : World} {g : Nat} {v : Value} {a b : Int} (hp : tmps.getD p undef = .pointer (some ⟨g, 0, none⟩)) (hg : W.heap[g]? = some (.cells #[v, .int .i64 a, .int .i64 b] 139 (0, 0))) : (results fn tmps).run Tryz.prog W = .ok (.agg #[v, .int .i64 a, .int .i64 b]) W := by
  obtain ⟨d, hu, hd⟩ := Option.map_eq_some_iff.1 und139
  exact results_cell_row hr tmps W g 139 _ (0, 0) d hp hg hu (by cases d <;> first | rfl | cases hd) (by kernel_rfl)
theorem two_new (w : World) (o o2 : Obj) : ((w.alloc o).alloc o2).heap[w.heap.size]? = some o ∧ ((w.alloc o).alloc o2).heap[w.heap.size + 1]? = some o2 ∧ Below w.heap.size w ((w.alloc o).alloc o2) := by
  have h1 := heap_alloc_new w o
  have h2 := heap_alloc_new (w.alloc o) o2
  have hs : (w.alloc o).heap.size = w.heap.size + 1 := Array.size_push ..
  rw [hs] at h2
  have b2 := below_alloc (w.alloc o) o2
  exact ⟨(b2.block _ (by omega)).trans h1, h2, (below_alloc w o).trans (b2.mono (by omega))⟩
set_option maxHeartbeats 4000000 in
theorem sh1 : ShW 1 := by
  intro w
  go_enter Tryz.func84, Tryz.ntmps84
  go_wp2_with fail
  exact bodyPost_ret (v := .agg #[.slice none 0 0, .int .i64 0, .int .i64 1]) (res_sh rfl rfl (heap_alloc_new w _)) rfl ⟨⟨.slice none 0 0, rfl, ⟨none, rfl, fun i h => absurd h (by simp [fsL])⟩⟩, below_alloc w _⟩
set_option maxHeartbeats 4000000 in
theorem sh2 : ShW 2 := by
  intro w
  go_enter Tryz.func84, Tryz.ntmps84
  go_wp2_with fail
  obtain ⟨n1, n2, n3⟩ := two_new w (.cells #[.slice (some ⟨w.heap.size + 1, 0, none⟩) 5 5, .int .i64 0, .int .i64 0] 139) (.cells #[.int .i64 2, .int .i64 3, .int .i64 4, .int .i64 5, .int .i64 8] 137)
  refine bodyPost_ret (v := .agg #[.slice (some ⟨w.heap.size + 1, 0, none⟩) 5 5, .int .i64 0, .int .i64 0]) (res_sh rfl rfl n1) rfl ⟨⟨_, rfl, ⟨some ⟨w.heap.size + 1, 0, none⟩, rfl, fun i hi => ⟨_, rfl, ?_⟩⟩⟩, n3⟩
  rw [cell_of_row _ (w.heap.size + 1) i _ 137 (0, 0) n2]
  have hi : i < 5 := hi
  match i, hi with
  | 0, _ => rfl
  | 1, _ => rfl
  | 2, _ => rfl
  | 3, _ => rfl
  | 4, _ => rfl
set_option maxHeartbeats 4000000 in
theorem sh3 : ShW 3 := by
  intro w
  go_enter Tryz.func84, Tryz.ntmps84
  go_wp2_with fail
  exact bodyPost_ret (v := .agg #[.slice none 0 0, .int .i64 0, .int .i64 7]) (res_sh rfl rfl (heap_alloc_new w _)) rfl ⟨⟨.slice none 0 0, rfl, ⟨none, rfl, fun i h => absurd h (by simp [fsL])⟩⟩, below_alloc w _⟩
set_option maxHeartbeats 4000000 in
theorem sh4 : ShW 4 := by
  intro w
  go_enter Tryz.func84, Tryz.ntmps84
  go_wp2_with fail
  obtain ⟨n1, n2, n3⟩ := two_new w (.cells #[.slice (some ⟨w.heap.size + 1, 0, none⟩) 2 2, .int .i64 0, .int .i64 0] 139) (.cells #[.int .i64 6, .int .i64 8] 137)
  refine bodyPost_ret (v := .agg #[.slice (some ⟨w.heap.size + 1, 0, none⟩) 2 2, .int .i64 0, .int .i64 0]) (res_sh rfl rfl n1) rfl ⟨⟨_, rfl, ⟨some ⟨w.heap.size + 1, 0, none⟩, rfl, fun i hi => ⟨_, rfl, ?_⟩⟩⟩, n3⟩
  rw [cell_of_row _ (w.heap.size + 1) i _ 137 (0, 0) n2]
  have hi : i < 2 := hi
  match i, hi with
  | 0, _ => rfl
  | 1, _ => rfl
set_option maxHeartbeats 4000000 in
theorem sh5 : ShW 5 := by
  intro w
  go_enter Tryz.func84, Tryz.ntmps84
  go_wp2_with fail
  exact bodyPost_ret (v := .agg #[.slice none 0 0, .int .i64 0, .int .i64 9]) (res_sh rfl rfl (heap_alloc_new w _)) rfl ⟨⟨.slice none 0 0, rfl, ⟨none, rfl, fun i h => absurd h (by simp [fsL])⟩⟩, below_alloc w _⟩
set_option maxHeartbeats 4000000 in
theorem sh10 : ShW 10 := by
  intro w
  go_enter Tryz.func84, Tryz.ntmps84
  go_wp2_with fail
  obtain ⟨n1, n2, n3⟩ := two_new w (.cells #[.slice (some ⟨w.heap.size + 1, 0, none⟩) 1 1, .int .i64 0, .int .i64 0] 139) (.cells #[.int .i64 13] 137)
  refine bodyPost_ret (v := .agg #[.slice (some ⟨w.heap.size + 1, 0, none⟩) 1 1, .int .i64 0, .int .i64 0]) (res_sh rfl rfl n1) rfl ⟨⟨_, rfl, ⟨some ⟨w.heap.size + 1, 0, none⟩, rfl, fun i hi => ⟨_, rfl, ?_⟩⟩⟩, n3⟩
  rw [cell_of_row _ (w.heap.size + 1) i _ 137 (0, 0) n2]
  have hi : i < 1 := hi
  match i, hi with
  | 0, _ => rfl
set_option maxHeartbeats 4000000 in
theorem sh11 : ShW 11 := by
  intro w
  go_enter Tryz.func84, Tryz.ntmps84
  go_wp2_with fail
  obtain ⟨n1, n2, n3⟩ := two_new w (.cells #[.slice (some ⟨w.heap.size + 1, 0, none⟩) 1 1, .int .i64 0, .int .i64 0] 139) (.cells #[.int .i64 13] 137)
  refine bodyPost_ret (v := .agg #[.slice (some ⟨w.heap.size + 1, 0, none⟩) 1 1, .int .i64 0, .int .i64 0]) (res_sh rfl rfl n1) rfl ⟨⟨_, rfl, ⟨some ⟨w.heap.size + 1, 0, none⟩, rfl, fun i hi => ⟨_, rfl, ?_⟩⟩⟩, n3⟩
  rw [cell_of_row _ (w.heap.size + 1) i _ 137 (0, 0) n2]
  have hi : i < 1 := hi
  match i, hi with
  | 0, _ => rfl
set_option maxHeartbeats 4000000 in
theorem sh12 : ShW 12 := by
  intro w
  go_enter Tryz.func84, Tryz.ntmps84
  go_wp2_with fail
  obtain ⟨n1, n2, n3⟩ := two_new w (.cells #[.slice (some ⟨w.heap.size + 1, 0, none⟩) 2 2, .int .i64 0, .int .i64 0] 139) (.cells #[.int .i64 7, .int .i64 13] 137)
  refine bodyPost_ret (v := .agg #[.slice (some ⟨w.heap.size + 1, 0, none⟩) 2 2, .int .i64 0, .int .i64 0]) (res_sh rfl rfl n1) rfl ⟨⟨_, rfl, ⟨some ⟨w.heap.size + 1, 0, none⟩, rfl, fun i hi => ⟨_, rfl, ?_⟩⟩⟩, n3⟩
  rw [cell_of_row _ (w.heap.size + 1) i _ 137 (0, 0) n2]
  have hi : i < 2 := hi
  match i, hi with
  | 0, _ => rfl
  | 1, _ => rfl
set_option maxHeartbeats 4000000 in
theorem sh13 : ShW 13 := by
  intro w
  go_enter Tryz.func84, Tryz.ntmps84
  go_wp2_with fail
  obtain ⟨n1, n2, n3⟩ := two_new w (.cells #[.slice (some ⟨w.heap.size + 1, 0, none⟩) 2 2, .int .i64 10, .int .i64 0] 139) (.cells #[.int .i64 13, .int .i64 8] 137)
  refine bodyPost_ret (v := .agg #[.slice (some ⟨w.heap.size + 1, 0, none⟩) 2 2, .int .i64 10, .int .i64 0]) (res_sh rfl rfl n1) rfl ⟨⟨_, rfl, ⟨some ⟨w.heap.size + 1, 0, none⟩, rfl, fun i hi => ⟨_, rfl, ?_⟩⟩⟩, n3⟩
  rw [cell_of_row _ (w.heap.size + 1) i _ 137 (0, 0) n2]
  have hi : i < 2 := hi
  match i, hi with
  | 0, _ => rfl
  | 1, _ => rfl
set_option maxHeartbeats 4000000 in
theorem sh14 : ShW 14 := by
  intro w
  go_enter Tryz.func84, Tryz.ntmps84
  go_wp2_with fail
  obtain ⟨n1, n2, n3⟩ := two_new w (.cells #[.slice (some ⟨w.heap.size + 1, 0, none⟩) 2 2, .int .i64 0, .int .i64 0] 139) (.cells #[.int .i64 13, .int .i64 8] 137)
  refine bodyPost_ret (v := .agg #[.slice (some ⟨w.heap.size + 1, 0, none⟩) 2 2, .int .i64 0, .int .i64 0]) (res_sh rfl rfl n1) rfl ⟨⟨_, rfl, ⟨some ⟨w.heap.size + 1, 0, none⟩, rfl, fun i hi => ⟨_, rfl, ?_⟩⟩⟩, n3⟩
  rw [cell_of_row _ (w.heap.size + 1) i _ 137 (0, 0) n2]
  have hi : i < 2 := hi
  match i, hi with
  | 0, _ => rfl
  | 1, _ => rfl
set_option maxHeartbeats 4000000 in
theorem sh15 : ShW 15 := by
  intro w
  go_enter Tryz.func84, Tryz.ntmps84
  go_wp2_with fail
  obtain ⟨n1, n2, n3⟩ := two_new w (.cells #[.slice (some ⟨w.heap.size + 1, 0, none⟩) 2 2, .int .i64 0, .int .i64 0] 139) (.cells #[.int .i64 13, .int .i64 8] 137)
  refine bodyPost_ret (v := .agg #[.slice (some ⟨w.heap.size + 1, 0, none⟩) 2 2, .int .i64 0, .int .i64 0]) (res_sh rfl rfl n1) rfl ⟨⟨_, rfl, ⟨some ⟨w.heap.size + 1, 0, none⟩, rfl, fun i hi => ⟨_, rfl, ?_⟩⟩⟩, n3⟩
  rw [cell_of_row _ (w.heap.size + 1) i _ 137 (0, 0) n2]
  have hi : i < 2 := hi
  match i, hi with
  | 0, _ => rfl
  | 1, _ => rfl
set_option maxHeartbeats 4000000 in
theorem sh16 : ShW 16 := by
  intro w
  go_enter Tryz.func84, Tryz.ntmps84
  go_wp2_with fail
  obtain ⟨n1, n2, n3⟩ := two_new w (.cells #[.slice (some ⟨w.heap.size + 1, 0, none⟩) 2 2, .int .i64 0, .int .i64 0] 139) (.cells #[.int .i64 13, .int .i64 13] 137)
  refine bodyPost_ret (v := .agg #[.slice (some ⟨w.heap.size + 1, 0, none⟩) 2 2, .int .i64 0, .int .i64 0]) (res_sh rfl rfl n1) rfl ⟨⟨_, rfl, ⟨some ⟨w.heap.size + 1, 0, none⟩, rfl, fun i hi => ⟨_, rfl, ?_⟩⟩⟩, n3⟩
  rw [cell_of_row _ (w.heap.size + 1) i _ 137 (0, 0) n2]
  have hi : i < 2 := hi
  match i, hi with
  | 0, _ => rfl
  | 1, _ => rfl
set_option maxHeartbeats 4000000 in
theorem sh17 : ShW 17 := by
  intro w
  go_enter Tryz.func84, Tryz.ntmps84
  go_wp2_with fail
  exact bodyPost_ret (v := .agg #[.slice none 0 0, .int .i64 0, .int .i64 11]) (res_sh rfl rfl (heap_alloc_new w _)) rfl ⟨⟨.slice none 0 0, rfl, ⟨none, rfl, fun i h => absurd h (by simp [fsL])⟩⟩, below_alloc w _⟩
set_option maxHeartbeats 4000000 in
theorem sh18 : ShW 18 := by
  intro w
  go_enter Tryz.func84, Tryz.ntmps84
  go_wp2_with fail
  obtain ⟨n1, n2, n3⟩ := two_new w (.cells #[.slice (some ⟨w.heap.size + 1, 0, none⟩) 1 1, .int .i64 0, .int .i64 0] 139) (.cells #[.int .i64 11] 137)
  refine bodyPost_ret (v := .agg #[.slice (some ⟨w.heap.size + 1, 0, none⟩) 1 1, .int .i64 0, .int .i64 0]) (res_sh rfl rfl n1) rfl ⟨⟨_, rfl, ⟨some ⟨w.heap.size + 1, 0, none⟩, rfl, fun i hi => ⟨_, rfl, ?_⟩⟩⟩, n3⟩
  rw [cell_of_row _ (w.heap.size + 1) i _ 137 (0, 0) n2]
  have hi : i < 1 := hi
  match i, hi with
  | 0, _ => rfl
set_option maxHeartbeats 4000000 in
theorem sh22 : ShW 22 := by
  intro w
  go_enter Tryz.func84, Tryz.ntmps84
  go_wp2_with fail
  obtain ⟨n1, n2, n3⟩ := two_new w (.cells #[.slice (some ⟨w.heap.size + 1, 0, none⟩) 1 1, .int .i64 0, .int .i64 0] 139) (.cells #[.int .i64 13] 137)
  refine bodyPost_ret (v := .agg #[.slice (some ⟨w.heap.size + 1, 0, none⟩) 1 1, .int .i64 0, .int .i64 0]) (res_sh rfl rfl n1) rfl ⟨⟨_, rfl, ⟨some ⟨w.heap.size + 1, 0, none⟩, rfl, fun i hi => ⟨_, rfl, ?_⟩⟩⟩, n3⟩
  rw [cell_of_row _ (w.heap.size + 1) i _ 137 (0, 0) n2]
  have hi : i < 1 := hi
  match i, hi with
  | 0, _ => rfl
set_option maxHeartbeats 4000000 in
theorem sh23 : ShW 23 := by
  intro w
  go_enter Tryz.func84, Tryz.ntmps84
  go_wp2_with fail
  exact bodyPost_ret (v := .agg #[.slice none 0 0, .int .i64 0, .int .i64 12]) (res_sh rfl rfl (heap_alloc_new w _)) rfl ⟨⟨.slice none 0 0, rfl, ⟨none, rfl, fun i h => absurd h (by simp [fsL])⟩⟩, below_alloc w _⟩
set_option maxHeartbeats 4000000 in
theorem sh24 : ShW 24 := by
  intro w
  go_enter Tryz.func84, Tryz.ntmps84
  go_wp2_with fail
  obtain ⟨n1, n2, n3⟩ := two_new w (.cells #[.slice (some ⟨w.heap.size + 1, 0, none⟩) 1 1, .int .i64 0, .int .i64 0] 139) (.cells #[.int .i64 13] 137)
  refine bodyPost_ret (v := .agg #[.slice (some ⟨w.heap.size + 1, 0, none⟩) 1 1, .int .i64 0, .int .i64 0]) (res_sh rfl rfl n1) rfl ⟨⟨_, rfl, ⟨some ⟨w.heap.size + 1, 0, none⟩, rfl, fun i hi => ⟨_, rfl, ?_⟩⟩⟩, n3⟩
  rw [cell_of_row _ (w.heap.size + 1) i _ 137 (0, 0) n2]
  have hi : i < 1 := hi
  match i, hi with
  | 0, _ => rfl
set_option maxHeartbeats 4000000 in
theorem sh32 : ShW 32 := by
  intro w
  go_enter Tryz.func84, Tryz.ntmps84
  go_wp2_with fail
  obtain ⟨n1, n2, n3⟩ := two_new w (.cells #[.slice (some ⟨w.heap.size + 1, 0, none⟩) 1 1, .int .i64 0, .int .i64 0] 139) (.cells #[.int .i64 7] 137)
  refine bodyPost_ret (v := .agg #[.slice (some ⟨w.heap.size + 1, 0, none⟩) 1 1, .int .i64 0, .int .i64 0]) (res_sh rfl rfl n1) rfl ⟨⟨_, rfl, ⟨some ⟨w.heap.size + 1, 0, none⟩, rfl, fun i hi => ⟨_, rfl, ?_⟩⟩⟩, n3⟩
  rw [cell_of_row _ (w.heap.size + 1) i _ 137 (0, 0) n2]
  have hi : i < 1 := hi
  match i, hi with
  | 0, _ => rfl
set_option maxHeartbeats 4000000 in
theorem sh33 : ShW 33 := by
  intro w
  go_enter Tryz.func84, Tryz.ntmps84
  go_wp2_with fail
  obtain ⟨n1, n2, n3⟩ := two_new w (.cells #[.slice (some ⟨w.heap.size + 1, 0, none⟩) 2 2, .int .i64 0, .int .i64 0] 139) (.cells #[.int .i64 13, .int .i64 13] 137)
  refine bodyPost_ret (v := .agg #[.slice (some ⟨w.heap.size + 1, 0, none⟩) 2 2, .int .i64 0, .int .i64 0]) (res_sh rfl rfl n1) rfl ⟨⟨_, rfl, ⟨some ⟨w.heap.size + 1, 0, none⟩, rfl, fun i hi => ⟨_, rfl, ?_⟩⟩⟩, n3⟩
  rw [cell_of_row _ (w.heap.size + 1) i _ 137 (0, 0) n2]
  have hi : i < 2 := hi
  match i, hi with
  | 0, _ => rfl
  | 1, _ => rfl
set_option maxHeartbeats 4000000 in
theorem sh34 : ShW 34 := by
  intro w
  go_enter Tryz.func84, Tryz.ntmps84
  go_wp2_with fail
  obtain ⟨n1, n2, n3⟩ := two_new w (.cells #[.slice (some ⟨w.heap.size + 1, 0, none⟩) 1 1, .int .i64 0, .int .i64 0] 139) (.cells #[.int .i64 13] 137)
  refine bodyPost_ret (v := .agg #[.slice (some ⟨w.heap.size + 1, 0, none⟩) 1 1, .int .i64 0, .int .i64 0]) (res_sh rfl rfl n1) rfl ⟨⟨_, rfl, ⟨some ⟨w.heap.size + 1, 0, none⟩, rfl, fun i hi => ⟨_, rfl, ?_⟩⟩⟩, n3⟩
  rw [cell_of_row _ (w.heap.size + 1) i _ 137 (0, 0) n2]
  have hi : i < 1 := hi
  match i, hi with
  | 0, _ => rfl
set_option maxHeartbeats 4000000 in
theorem sh35 : ShW 35 := by
  intro w
  go_enter Tryz.func84, Tryz.ntmps84
  go_wp2_with fail
  obtain ⟨n1, n2, n3⟩ := two_new w (.cells #[.slice (some ⟨w.heap.size + 1, 0, none⟩) 3 3, .int .i64 0, .int .i64 0] 139) (.cells #[.int .i64 13, .int .i64 13, .int .i64 13] 137)
  refine bodyPost_ret (v := .agg #[.slice (some ⟨w.heap.size + 1, 0, none⟩) 3 3, .int .i64 0, .int .i64 0]) (res_sh rfl rfl n1) rfl ⟨⟨_, rfl, ⟨some ⟨w.heap.size + 1, 0, none⟩, rfl, fun i hi => ⟨_, rfl, ?_⟩⟩⟩, n3⟩
  rw [cell_of_row _ (w.heap.size + 1) i _ 137 (0, 0) n2]
  have hi : i < 3 := hi
  match i, hi with
  | 0, _ => rfl
  | 1, _ => rfl
  | 2, _ => rfl
set_option maxHeartbeats 4000000 in
theorem sh36 : ShW 36 := by
  intro w
  go_enter Tryz.func84, Tryz.ntmps84
  go_wp2_with fail
  exact bodyPost_ret (v := .agg #[.slice none 0 0, .int .i64 0, .int .i64 13]) (res_sh rfl rfl (heap_alloc_new w _)) rfl ⟨⟨.slice none 0 0, rfl, ⟨none, rfl, fun i h => absurd h (by simp [fsL])⟩⟩, below_alloc w _⟩
set_option maxHeartbeats 4000000 in
theorem sh_none {op : Nat} (h : op ≠ 1 ∧ op ≠ 2 ∧ op ≠ 3 ∧ op ≠ 4 ∧ op ≠ 5 ∧ op ≠ 10 ∧ op ≠ 11 ∧ op ≠ 12 ∧ op ≠ 13 ∧ op ≠ 14 ∧ op ≠ 15 ∧ op ≠ 16 ∧ op ≠ 17 ∧ op ≠ 18 ∧ op ≠ 22 ∧ op ≠ 23 ∧ op ≠ 24 ∧ op ≠ 32 ∧ op ≠ 33 ∧ op ≠ 34 ∧ op ≠ 35 ∧ op ≠ 36) : ShW op := by
  intro w
  have e1 : fsL op = [] := by
    unfold fsL
    rw [if_neg (by omega), if_neg (by omega), if_neg (by omega), if_neg (by omega), if_neg (by omega), if_neg (by omega), if_neg (by omega), if_neg (by omega), if_neg (by omega), if_neg (by omega), if_neg (by omega), if_neg (by omega), if_neg (by omega), if_neg (by omega), if_neg (by omega), if_neg (by omega)]
  have e2 : peR op = 0 := if_neg (by omega)
  have e3 : maR op = 0 := by
    unfold maR
    rw [if_neg (by omega), if_neg (by omega), if_neg (by omega), if_neg (by omega), if_neg (by omega), if_neg (by omega)]
  rw [e2, e3]
  have k1 : ¬ (op : Int) = 1 := by omega
  have k2 : ¬ (op : Int) = 2 := by omega
  have k3 : ¬ (op : Int) = 3 := by omega
  have k4 : ¬ (op : Int) = 4 := by omega
  have k5 : ¬ (op : Int) = 5 := by omega
  have k10 : ¬ (op : Int) = 10 := by omega
  have k11 : ¬ (op : Int) = 11 := by omega
  have k12 : ¬ (op : Int) = 12 := by omega
  have k13 : ¬ (op : Int) = 13 := by omega
  have k14 : ¬ (op : Int) = 14 := by omega
  have k15 : ¬ (op : Int) = 15 := by omega
  have k16 : ¬ (op : Int) = 16 := by omega
  have k17 : ¬ (op : Int) = 17 := by omega
  have k18 : ¬ (op : Int) = 18 := by omega
  have k22 : ¬ (op : Int) = 22 := by omega
  have k23 : ¬ (op : Int) = 23 := by omega
  have k24 : ¬ (op : Int) = 24 := by omega
  have k32 : ¬ (op : Int) = 32 := by omega
  have k33 : ¬ (op : Int) = 33 := by omega
  have k34 : ¬ (op : Int) = 34 := by omega
  have k35 : ¬ (op : Int) = 35 := by omega
  have k36 : ¬ (op : Int) = 36 := by omega
  have HS : Hid (∀ w', Shp w' (.slice none 0 0) op) := fun w' => by
    unfold Shp
    rw [e1]
    exact ⟨none, rfl, fun i h => absurd h (by simp)⟩
  clear h e1 e2 e3
  go_enter Tryz.func84, Tryz.ntmps84
  go_wp2_with fail
  exact bodyPost_ret (v := .agg #[.slice none 0 0, .int .i64 0, .int .i64 0]) (res_sh rfl rfl (heap_alloc_new w _)) rfl ⟨⟨.slice none 0 0, rfl, HS.out _⟩, below_alloc w _⟩
theorem shape_w (op : Nat) : ShW op := by
  by_cases h1 : op = 1
  · subst h1; exact sh1
  by_cases h2 : op = 2
  · subst h2; exact sh2
  by_cases h3 : op = 3
  · subst h3; exact sh3
  by_cases h4 : op = 4
  · subst h4; exact sh4
  by_cases h5 : op = 5
  · subst h5; exact sh5
  by_cases h10 : op = 10
  · subst h10; exact sh10
  by_cases h11 : op = 11
  · subst h11; exact sh11
  by_cases h12 : op = 12
  · subst h12; exact sh12
  by_cases h13 : op = 13
  · subst h13; exact sh13
  by_cases h14 : op = 14
  · subst h14; exact sh14
  by_cases h15 : op = 15
  · subst h15; exact sh15
  by_cases h16 : op = 16
  · subst h16; exact sh16
  by_cases h17 : op = 17
  · subst h17; exact sh17
  by_cases h18 : op = 18
  · subst h18; exact sh18
  by_cases h22 : op = 22
  · subst h22; exact sh22
  by_cases h23 : op = 23
  · subst h23; exact sh23
  by_cases h24 : op = 24
  · subst h24; exact sh24
  by_cases h32 : op = 32
  · subst h32; exact sh32
  by_cases h33 : op = 33
  · subst h33; exact sh33
  by_cases h34 : op = 34
  · subst h34; exact sh34
  by_cases h35 : op = 35
  · subst h35; exact sh35
  by_cases h36 : op = 36
  · subst h36; exact sh36
  exact sh_none ⟨h1, h2, h3, h4, h5, h10, h11, h12, h13, h14, h15, h16, h17, h18, h22, h23, h24, h32, h33, h34, h35, h36⟩
end Go.Proofs.YtmfoehaeejhlpaaGreatDoor

/-
  What is well formed: a node's text; a child's role.
-/
namespace Go.Proofs.YtmfoehaeejhlpaaGreatDoor
open Go.RowKit Yn
set_option maxRecDepth 100000
/-- A text that a node may have. -/
def txOk (op : Nat) (t : ByteArray) : Prop := ((op = 2 ∨ op = 4 ∨ op = 10 ∨ op = 11 ∨ op = 12 ∨ op = 19 ∨ op = 23 ∨ op = 24 ∨ op = 31 ∨ op = 32 ∨ op = 37) ∧ nmOk t) ∨ op = 3 ∨ (op = 33 ∧ binding t ≠ 0) ∨ (op = 34 ∧ t = bs [45]) ∨ (op = 34 ∧ t = bs [33]) ∨ (op = 36 ∧ isBuiltIn t = true) ∨ (op = 36 ∧ isBuiltIn t = false ∧ nmOk t) ∨ (op = 38 ∧ t = bs [116, 105, 99, 107]) ∨ (op = 38 ∧ t = bs [109, 101]) ∨ ((op ≠ 2 ∧ op ≠ 3 ∧ op ≠ 4 ∧ op ≠ 10 ∧ op ≠ 11 ∧ op ≠ 12 ∧ op ≠ 19 ∧ op ≠ 23 ∧ op ≠ 24 ∧ op ≠ 31 ∧ op ≠ 32 ∧ op ≠ 33 ∧ op ≠ 34 ∧ op ≠ 36 ∧ op ≠ 37 ∧ op ≠ 38) ∧ t = bs [])
set_option maxHeartbeats 4000000 in
theorem text_j {B j gw k g op m c : Nat} {t : ByteArray} {n : Int} {ao : Option Addr} {w : World} (hj : Jd B w j gw k) (hK : Le.Wd w) (hce : Ce B w g op t n ao m c) (h : txOk op t) : Calls Tryz.prog 83 #[.pointer (some ⟨j, 0, none⟩), .pointer (some ⟨g, 0, none⟩)] w fun e w' => e = .returned (.bool true) ∧ Below w.heap.size w w' := by
  obtain ⟨-, d0, d1, d2, d3⟩ := hce
  have R0 : Hid (Below w.heap.size w w) := Below.refl _ _
  unfold txOk at h
  rcases h with ⟨h, hn⟩ | h | ⟨h, hn⟩ | ⟨h, hn⟩ | ⟨h, hn⟩ | ⟨h, hn⟩ | ⟨h, hb, hn⟩ | ⟨h, hn⟩ | ⟨h, hn⟩ | ⟨h, hn⟩
  · have J := hide (name_j hj hK hn)
    clear hj hK hn
    rcases h with rfl | rfl | rfl | rfl | rfl | rfl | rfl | rfl | rfl | rfl | rfl
    all_goals
      go_enter Tryz.func83, Tryz.ntmps83
      go_wp2_with fail
      refine J.out.mono ?_
      rintro e w1 ⟨rfl, h1⟩
      have H1 := hide h1
      clear h1 J
      go_wp2_with fail
      go_ret
      exact ⟨rfl, H1.out⟩
  · subst h
    go_enter Tryz.func83, Tryz.ntmps83
    go_wp2_with fail
    go_ret
    exact ⟨rfl, R0.out⟩
  · subst h
    have J := hide (binding_any t w)
    have z : ((binding t : Int) != 0) = true := by rw [bne_iff_ne]; omega
    clear hj hK hn
    go_enter Tryz.func83, Tryz.ntmps83
    go_wp2_with fail
    refine J.out.mono ?_
    rintro e w1 ⟨rfl, rfl⟩
    clear J
    go_wp2_with fail
    go_ret
    exact ⟨by first | rfl | simp, R0.out⟩
  · subst h
    have z : (t.toList == [45]) = true := by
      rw [hn]
      unfold bs
      simp
    clear hj hK hn
    go_enter Tryz.func83, Tryz.ntmps83
    go_wp2_with fail
    go_ret
    exact ⟨by first | rfl | simp, R0.out⟩
  · subst h
    have z : (t.toList == [33]) = true := by
      rw [hn]
      unfold bs
      simp
    have y : (t.toList == [45]) = false := by
      rw [hn]
      unfold bs
      simp
    clear hj hK hn
    go_enter Tryz.func83, Tryz.ntmps83
    go_wp2_with fail
    go_ret
    exact ⟨by first | rfl | simp, R0.out⟩
  · subst h
    have J := builtIn_any t w
    rw [hn] at J
    have J := hide J
    clear hj hK hn
    go_enter Tryz.func83, Tryz.ntmps83
    go_wp2_with fail
    refine J.out.mono ?_
    rintro e w1 ⟨rfl, rfl⟩
    go_wp2_with fail
    go_ret
    exact ⟨rfl, R0.out⟩
  · subst h
    have J := builtIn_any t w
    rw [hb] at J
    have J := hide J
    have J2 := hide (name_j hj hK hn)
    clear hj hK hn hb
    go_enter Tryz.func83, Tryz.ntmps83
    go_wp2_with fail
    refine J.out.mono ?_
    rintro e w1 ⟨rfl, rfl⟩
    go_wp2_with fail
    refine J2.out.mono ?_
    rintro e w2 ⟨rfl, h1⟩
    have H1 := hide h1
    clear h1 J J2
    go_wp2_with fail
    go_ret
    exact ⟨rfl, H1.out⟩
  · subst h
    have z : (t.toList == [116, 105, 99, 107]) = true := by
      rw [hn]
      unfold bs
      simp
    clear hj hK hn
    go_enter Tryz.func83, Tryz.ntmps83
    go_wp2_with fail
    go_ret
    exact ⟨by first | rfl | simp, R0.out⟩
  · subst h
    have z : (t.toList == [109, 101]) = true := by
      rw [hn]
      unfold bs
      simp
    have y : (t.toList == [116, 105, 99, 107]) = false := by
      rw [hn]
      unfold bs
      simp
    clear hj hK hn
    go_enter Tryz.func83, Tryz.ntmps83
    go_wp2_with fail
    go_ret
    exact ⟨by first | rfl | simp, R0.out⟩
  · have z : (t.toList == []) = true := by
      rw [hn]
      unfold bs
      simp
    have k2 : ¬ (op : Int) = 2 := by omega
    have k3 : ¬ (op : Int) = 3 := by omega
    have k4 : ¬ (op : Int) = 4 := by omega
    have k10 : ¬ (op : Int) = 10 := by omega
    have k11 : ¬ (op : Int) = 11 := by omega
    have k12 : ¬ (op : Int) = 12 := by omega
    have k19 : ¬ (op : Int) = 19 := by omega
    have k23 : ¬ (op : Int) = 23 := by omega
    have k24 : ¬ (op : Int) = 24 := by omega
    have k31 : ¬ (op : Int) = 31 := by omega
    have k32 : ¬ (op : Int) = 32 := by omega
    have k33 : ¬ (op : Int) = 33 := by omega
    have k34 : ¬ (op : Int) = 34 := by omega
    have k36 : ¬ (op : Int) = 36 := by omega
    have k37 : ¬ (op : Int) = 37 := by omega
    have k38 : ¬ (op : Int) = 38 := by omega
    clear hj hK hn h
    go_enter Tryz.func83, Tryz.ntmps83
    go_wp2_with fail
    go_ret
    exact ⟨by first | rfl | simp, R0.out⟩
/-- What the child at a place must be. -/
def roleAt (op i : Nat) : Nat := if i < (fsL op).length then (fsL op).getD i 0 else if i = (fsL op).length ∧ peR op ≠ 0 then peR op else maR op
theorem fsL_le (op : Nat) : (fsL op).length ≤ 5 := by
  unfold fsL
  by_cases h2 : op = 2
  · rw [if_pos h2]; decide
  rw [if_neg h2]
  by_cases h4 : op = 4
  · rw [if_pos h4]; decide
  rw [if_neg h4]
  by_cases h10 : op = 10
  · rw [if_pos h10]; decide
  rw [if_neg h10]
  by_cases h11 : op = 11
  · rw [if_pos h11]; decide
  rw [if_neg h11]
  by_cases h12 : op = 12
  · rw [if_pos h12]; decide
  rw [if_neg h12]
  by_cases h13 : op = 13
  · rw [if_pos h13]; decide
  rw [if_neg h13]
  by_cases h14 : op = 14
  · rw [if_pos h14]; decide
  rw [if_neg h14]
  by_cases h15 : op = 15
  · rw [if_pos h15]; decide
  rw [if_neg h15]
  by_cases h16 : op = 16
  · rw [if_pos h16]; decide
  rw [if_neg h16]
  by_cases h18 : op = 18
  · rw [if_pos h18]; decide
  rw [if_neg h18]
  by_cases h22 : op = 22
  · rw [if_pos h22]; decide
  rw [if_neg h22]
  by_cases h24 : op = 24
  · rw [if_pos h24]; decide
  rw [if_neg h24]
  by_cases h32 : op = 32
  · rw [if_pos h32]; decide
  rw [if_neg h32]
  by_cases h33 : op = 33
  · rw [if_pos h33]; decide
  rw [if_neg h33]
  by_cases h34 : op = 34
  · rw [if_pos h34]; decide
  rw [if_neg h34]
  by_cases h35 : op = 35
  · rw [if_pos h35]; decide
  rw [if_neg h35]
  decide
set_option maxHeartbeats 4000000 in
theorem at_w {op i : Nat} {v : Value} {w : World} (h : Shp w v op) (_hi : i ≤ 1048576) : Calls Tryz.prog 85 #[.agg #[v, .int .i64 (peR op : Int), .int .i64 (maR op : Int)], .int .i64 (i : Int)] w fun e w' => e = .returned (.int .i64 (roleAt op i : Int)) ∧ Below w.heap.size w w' := by
  have R0 : Hid (Below w.heap.size w (w.alloc (.cells #[v, .int .i64 (peR op : Int), .int .i64 (maR op : Int)] 139))) := below_alloc w _
  have hs := h.later R0.out
  obtain ⟨ao, rfl, hc⟩ := h
  obtain ⟨m, hm⟩ : ∃ m, m = (fsL op).length := ⟨_, rfl⟩
  have hm5 := fsL_le op
  unfold roleAt
  by_cases h1 : i < (fsL op).length
  · rw [if_pos h1, List.getD_eq_getElem?_getD, List.getElem?_eq_getElem h1]
    obtain ⟨q, rfl, hq⟩ := hc i h1
    have hq2 := (R0.out.cell (World.block_lt_of_cell? w _ hq)).trans hq
    show Calls _ _ _ _ fun e w' => e = .returned (.int .i64 ((fsL op)[i] : Int)) ∧ _
    generalize (fsL op)[i] = r at *
    rw [← hm] at h1 hm5 R0 ⊢
    have k1 : (i : Int) < (m : Int) := by omega
    rw [← hm] at hq2
    clear hc hs hm hq
    go_enter Tryz.func85, Tryz.ntmps85
    go_wp2_with fail
    go_ret
    exact ⟨rfl, R0.out⟩
  · rw [if_neg h1]
    rw [← hm] at h1 hm5 R0 ⊢
    have k1 : ¬ (i : Int) < (m : Int) := by omega
    by_cases h2 : i = m ∧ peR op ≠ 0
    · rw [if_pos h2]
      obtain ⟨rfl, h2⟩ := h2
      have k2 : ((peR op : Int) != 0) = true := by rw [bne_iff_ne]; omega
      have k3 : ¬ (peR op : Int) = 0 := by omega
      clear hc hs h2 hm
      go_enter Tryz.func85, Tryz.ntmps85
      go_wp2_with fail
      go_ret
      exact ⟨rfl, R0.out⟩
    · rw [if_neg h2]
      by_cases h3 : i = m
      · subst h3
        have k2 : peR op = 0 := by
          by_cases e : peR op = 0
          · exact e
          · exact absurd ⟨rfl, e⟩ h2
        have k3 : (peR op : Int) = 0 := by omega
        clear hc hs h2 hm
        go_enter Tryz.func85, Tryz.ntmps85
        go_wp2_with fail
        go_ret
        exact ⟨rfl, by have := R0.out; (try rw [k3] at this); exact this⟩
      · have k2 : ¬ (i : Int) = (m : Int) := by omega
        clear hc hs h2 hm h3
        go_enter Tryz.func85, Tryz.ntmps85
        go_wp2_with fail
        go_ret
        exact ⟨rfl, R0.out⟩
end Go.Proofs.YtmfoehaeejhlpaaGreatDoor
