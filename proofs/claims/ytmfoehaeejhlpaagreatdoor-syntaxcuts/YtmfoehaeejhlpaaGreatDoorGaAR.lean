import Derived.Test.YtmfoehaeejhlpaaGreatDoorGaAQ
import Derived.Lib.SmallJoins
import Derived.Lib.Builder
import Derived.Lib.AppendStr
/-
  The grammar: how much is enough to go on, in statements and programs.
-/
namespace Go.Proofs.YtmfoehaeejhlpaaGreatDoor.Yn
set_option maxRecDepth 100000
section
variable {ws : List ByteArray} {s : S} {n : Nat}
theorem cond_ls (h : 6 * s.ts.length + 4 ≤ n) : Ls (cond ws n s) s.ts.length := (expr_ls ws n).1 s h
theorem field_ls (h : 6 * s.ts.length ≤ n) : Ls (field ws n s) s.ts.length := by
  unfold field
  refine name_ls.bind fun _ s1 h1 => ?_
  refine (take_ls _ (by decide)).bind fun _ s2 h2 => ?_
  exact (cond_ls (by omega)).bind fun _ s3 h3 => Ls.ok (by omega)
theorem items_ls {p : Nat → S → R Tree} (hp : ∀ n s, 6 * s.ts.length + 4 ≤ n → Ls (p n s) s.ts.length) : ∀ (n : Nat) (l : List Tree) (s : S), 6 * s.ts.length + 1 ≤ n → Ls (items p n l s) (s.ts.length + 1)
  | 0, l, s, h => by omega
  | n + 1, l, s, h => by
    rw [items]
    split
    · rename_i hb
      have hx := at_lt (by decide) hb
      refine (hp _ _ (by omega)).bind fun _ s1 h1 => ?_
      exact (items_ls hp n _ s1 (by omega)).mono (by omega)
    · exact Ls.ok (by omega)
theorem list_ls {p : Nat → S → R Tree} (hp : ∀ n s, 6 * s.ts.length + 4 ≤ n → Ls (p n s) s.ts.length) (x : ByteArray) (h : 6 * s.ts.length + 4 ≤ n) : Ls (listS p n x s) (s.ts.length + 1) := by
  unfold listS
  split
  · exact Ls.ok (by omega)
  · refine (hp _ _ h).bind fun _ s1 h1 => ?_
    exact (items_ls hp n _ s1 (by omega)).mono (by omega)
theorem part_eq (ws : List ByteArray) (n : Nat) (s : S) : part ws n s = (name ws s).bind fun t s1 => (openS cLb s1).bind fun _ s2 => (listS (field ws) n cRb s2).bind fun l s3 => (take cRb s3).bind fun _ s4 => .ok (.mk 23 t 0 l (hd s).a) (leave s4) := by
  unfold part
  congr 1
  funext t s1
  congr 1
  funext _ s2
  congr 1
  unfold listS
  split
  · rfl
  · congr 1
    funext x s
    exact fields_items ws n [x] s
theorem part_ls (h : 6 * s.ts.length ≤ n) : Ls (part ws n s) s.ts.length := by
  rw [part_eq]
  refine name_ls.bind fun _ s1 h1 => ?_
  refine (open_ls _ (by decide)).bind fun _ s2 h2 => ?_
  refine (list_ls (fun n s h => field_ls (by omega)) _ (by omega)).bind fun _ s3 h3 => ?_
  refine (take_ls _ (by decide)).bind fun _ s4 h4 => Ls.ok ?_
  rw [leave_ts]
  omega
theorem tail_ls (h : 6 * s.ts.length + 4 ≤ n) : Ls (tail ws n s) s.ts.length := by
  unfold tail
  refine (cond_ls h).bind fun _ s1 h1 => ?_
  exact (take_ls _ (by decide)).bind fun _ s2 h2 => Ls.ok (by omega)
theorem way_lt {p : ByteArray × Nat} (hp : p ∈ ways) (h : p.1 = (hd s).t) : (nx s).ts.length < s.ts.length := by
  refine nx_lt (.inr ?_)
  rw [← h]
  rw [ways] at hp
  simp only [List.mem_cons, List.not_mem_nil, or_false] at hp
  rcases hp with rfl | rfl | rfl | rfl | rfl | rfl | rfl | rfl | rfl | rfl | rfl <;> decide
end
theorem stmt_ls (ws : List ByteArray) : ∀ n : Nat, (∀ s, 6 * s.ts.length + 1 ≤ n → Ls (stmt ws n s) s.ts.length) ∧ (∀ s, 6 * s.ts.length + 1 ≤ n → Ls (block ws n s) s.ts.length) ∧ (∀ l s, 6 * s.ts.length + 2 ≤ n → Ls (stmts ws n l s) s.ts.length)
  | 0 => ⟨fun s h => by omega, fun s h => by omega, fun l s h => by omega⟩
  | n + 1 => by
    obtain ⟨is, ib, il⟩ := stmt_ls ws n
    refine ⟨fun s h => ?_, fun s h => ?_, fun l s h => ?_⟩
    · by_cases hst : s.st = 200
      · rcases wayOf_cases (hd s).t with ⟨hw, -⟩ | ⟨p, hp, -, hw⟩
        · cases hn : isName ws s with
          | false => rw [stmt_name_no hw hn]; exact Ls.no
          | true => rw [stmt_name_full hw hn hst]; exact Ls.no
        · rw [stmt_word hw (by
            intro e
            rw [ways] at hp
            simp only [List.mem_cons, List.not_mem_nil, or_false] at hp
            rcases hp with rfl | rfl | rfl | rfl | rfl | rfl | rfl | rfl | rfl | rfl | rfl <;> cases e) hst]
          exact Ls.no
      · rcases wayOf_cases (hd s).t with ⟨hw, -⟩ | ⟨p, hp, hpt, hw⟩
        · cases hn : isName ws s with
          | false => rw [stmt_name_no hw hn]; exact Ls.no
          | true =>
            rw [stmt_set hw hn hst]
            refine Ls.bind (t := s.ts.length) (show Ls (name ws (up s)) (up s).ts.length from name_ls) fun _ s1 h1 => ?_
            split
            · rename_i hb
              have hx := at_lt (by decide) hb
              refine nameNode_ls.bind fun _ s2 h2 => ?_
              refine (take_ls _ (by decide)).bind fun _ s3 h3 => ?_
              exact (tail_ls (by omega)).bind fun _ s4 h4 => Ls.ok (by omega)
            · refine (take_ls _ (by decide)).bind fun _ s3 h3 => ?_
              exact (tail_ls (by omega)).bind fun _ s4 h4 => Ls.ok (by omega)
        · have e0 : (nx (up s)).ts.length < s.ts.length := way_lt hp hpt
          rw [ways] at hp
          simp only [List.mem_cons, List.not_mem_nil, or_false] at hp
          rcases hp with rfl | rfl | rfl | rfl | rfl | rfl | rfl | rfl | rfl | rfl | rfl
          · rw [stmt_let hst hw]
            refine name_ls.bind fun _ s1 h1 => ?_
            refine (take_ls _ (by decide)).bind fun _ s2 h2 => ?_
            exact (tail_ls (by omega)).bind fun _ s3 h3 => Ls.ok (by omega)
          · rw [stmt_if hst hw]
            refine (cond_ls (by omega)).bind fun _ s1 h1 => ?_
            refine (ib s1 (by omega)).bind fun _ s2 h2 => ?_
            split
            · rename_i hb
              have hx := at_lt (by decide) hb
              refine Ls.bind (t := (nx s2).ts.length) ?_ fun _ s3 h3 => Ls.ok (by omega)
              split
              · exact is _ (by omega)
              · exact ib _ (by omega)
            · exact Ls.ok (by omega)
          · rw [stmt_while hst hw]
            refine (cond_ls (by omega)).bind fun _ s1 h1 => ?_
            exact (ib s1 (by omega)).bind fun _ s2 h2 => Ls.ok (by omega)
          · rw [stmt_repeat hst hw]
            refine (cond_ls (by omega)).bind fun _ s1 h1 => ?_
            exact (ib s1 (by omega)).bind fun _ s2 h2 => Ls.ok (by omega)
          · rw [stmt_emit hst hw]
            refine (cond_ls (by omega)).bind fun _ s1 h1 => ?_
            refine (take_ls _ (by decide)).bind fun _ s2 h2 => ?_
            exact (tail_ls (by omega)).bind fun _ s3 h3 => Ls.ok (by omega)
          · rw [stmt_spawn hst hw]
            refine (list_ls (fun n s h => part_ls (by omega)) _ (by omega)).bind fun _ s1 h1 => ?_
            exact (take_ls _ (by decide)).bind fun _ s2 h2 => Ls.ok (by omega)
          · rw [stmt_add hst hw]
            refine (part_ls (by omega)).bind fun _ s1 h1 => ?_
            exact (take_ls _ (by decide)).bind fun _ s2 h2 => Ls.ok (by omega)
          · rw [stmt_remove hst hw]
            refine name_ls.bind fun _ s1 h1 => ?_
            exact (take_ls _ (by decide)).bind fun _ s2 h2 => Ls.ok (by omega)
          · rw [stmt_die hst hw]
            exact (take_ls _ (by decide)).bind fun _ s2 h2 => Ls.ok (by omega)
          · rw [stmt_stop hst hw]
            exact (take_ls _ (by decide)).bind fun _ s2 h2 => Ls.ok (by omega)
          · rw [stmt_return hst hw]
            exact (tail_ls (by omega)).bind fun _ s3 h3 => Ls.ok (by omega)
    · rw [block]
      refine (open_ls _ (by decide)).bind fun _ s1 h1 => ?_
      refine (il _ s1 (by omega)).bind fun _ s2 h2 => Ls.ok ?_
      rw [leave_ts]
      omega
    · rw [stmts]
      split
      · exact Ls.ok (at_lt (x := cRb) (by decide) (by assumption))
      · refine (is s (by omega)).bind fun _ s1 h1 => ?_
        exact (il _ s1 (by omega)).mono (by omega)
theorem names_ls (ws : List ByteArray) : ∀ (n most sum : Nat) (l : List Tree) (s : S), s.ts.length + 1 ≤ n → Ls (names ws n most sum l s) s.ts.length
  | 0, most, sum, l, s, h => by omega
  | n + 1, most, sum, l, s, h => by
    rw [names]
    unfold needName fail
    split
    · show Ls (if sum = most then _ else _) _
      split
      · exact Ls.no
      · refine nameNode_ls.bind fun _ s1 h1 => ?_
        split
        · rename_i hb
          have hx := at_lt (by decide) hb
          exact (names_ls ws n most _ _ _ (by omega)).mono (by omega)
        · exact Ls.ok h1
    · exact Ls.no
section
variable {ws : List ByteArray} {s : S} {n : Nat}
theorem clause_ls {x : ByteArray} (hx : x ≠ bs []) (h : 6 * s.ts.length + 1 ≤ n) : Ls (clauseS ws n x s) (s.ts.length + 1) := by
  unfold clauseS
  split
  · rename_i hb
    have h0 := at_lt hx hb
    exact (names_ls ws n _ _ _ _ (by omega)).bind fun _ s1 h1 => Ls.ok (by omega)
  · exact Ls.ok (by omega)
theorem clauses_ls : ∀ (l : List ByteArray) (r : List Tree) (s : S), (∀ x ∈ l, x ≠ bs []) → 6 * s.ts.length + 1 ≤ n → Ls (clausesS ws n l r s) (s.ts.length + 1)
  | [], r, s, _, h => Ls.ok (by omega)
  | x :: l, r, s, hx, h => by
    rw [clausesS]
    refine (clause_ls (hx x List.mem_cons_self) h).bind fun _ s1 h1 => ?_
    exact (clauses_ls l _ s1 (fun y hy => hx y (List.mem_cons_of_mem _ hy)) (by omega)).mono (by omega)
theorem param_ls (h : 6 * s.ts.length + 1 ≤ n) : Ls (paramS ws n s) s.ts.length := by
  unfold paramS
  refine (take_ls _ (by decide)).bind fun _ s1 h1 => ?_
  split
  · exact (take_ls _ (by decide)).bind fun _ s2 h2 => Ls.ok (by omega)
  · refine (names_ls ws n _ _ _ _ (by omega)).bind fun _ s2 h2 => ?_
    exact (take_ls _ (by decide)).bind fun _ s3 h3 => Ls.ok (by omega)
theorem func_ls (h : 6 * s.ts.length + 1 ≤ n) : Ls (funcS ws n s) s.ts.length := by
  unfold funcS fail
  split
  · split
    · exact Ls.no
    · refine Ls.bind (t := s.ts.length) (show Ls (take wFunc (upF s)) (upF s).ts.length from take_ls _ (by decide)) fun _ s1 h1 => ?_
      refine name_ls.bind fun _ s2 h2 => ?_
      refine (param_ls (by omega)).bind fun _ s3 h3 => ?_
      exact ((stmt_ls ws n).2.1 s3 (by omega)).bind fun _ s4 h4 => Ls.ok (by omega)
  · exact Ls.no
theorem system_ls (h : 6 * s.ts.length + 1 ≤ n) : Ls (systemS ws n s) s.ts.length := by
  unfold systemS fail
  split
  · exact Ls.no
  · refine Ls.bind (t := s.ts.length) (show Ls (take wSystem (upY s)) (upY s).ts.length from take_ls _ (by decide)) fun _ s1 h1 => ?_
    refine name_ls.bind fun _ s2 h2 => ?_
    refine (clauses_ls clauseWords [] s2 (by decide) (by omega)).bind fun _ s3 h3 => ?_
    exact ((stmt_ls ws n).2.1 s3 (by omega)).bind fun _ s4 h4 => Ls.ok (by omega)
theorem member_ls (h : 6 * s.ts.length + 1 ≤ n) : Ls (memberS ws n s) s.ts.length := by
  unfold memberS
  split
  · exact system_ls h
  · exact func_ls h
end
theorem prog_ls (ws : List ByteArray) : ∀ (n : Nat) (l : List Tree) (s : S), 6 * s.ts.length + 2 ≤ n → Ls (progS ws n l s) (s.ts.length + 1)
  | 0, l, s, h => by omega
  | n + 1, l, s, h => by
    rw [progS]
    split
    · exact Ls.ok (by omega)
    · refine (member_ls (by omega)).bind fun _ s1 h1 => ?_
      exact (prog_ls ws n _ s1 (by omega)).mono (by omega)
end Go.Proofs.YtmfoehaeejhlpaaGreatDoor.Yn

/-
  lex.Words; and Parse, whole.
-/
namespace Go.Proofs.YtmfoehaeejhlpaaGreatDoor
open Go.RowKit Yn
set_option maxRecDepth 1000000
namespace Le
def meaning : ByteArray := { data := (([97, 98, 115, 32, 97, 100, 100, 32, 100, 105, 101, 32, 101, 108, 115, 101, 32, 101, 109, 105, 116, 32, 102, 117, 110, 99, 32, 104, 97, 115, 32, 105, 102].append [32, 105, 110, 112, 117, 116, 32, 108, 101, 116, 32, 109, 97, 120, 32, 109, 101, 32, 109, 105, 110, 32, 114, 97, 110, 100, 32, 114, 101, 97, 100, 115, 32, 114]).append ([101, 109, 111, 118, 101, 32, 114, 101, 112, 101, 97, 116, 32, 114, 101, 116, 117, 114, 110, 32, 115, 112, 97, 119, 110, 32, 115, 116, 111, 112, 32, 115, 121, 115].append [116, 101, 109, 32, 116, 105, 99, 107, 32, 119, 104, 105, 108, 101, 32, 119, 105, 116, 104, 32, 119, 105, 116, 104, 111, 117, 116, 32, 119, 114, 105, 116, 101, 115])).toArray }
def ws : List (List UInt8) := [[97, 98, 115], [97, 100, 100], [100, 105, 101], [101, 108, 115, 101], [101, 109, 105, 116], [102, 117, 110, 99], [104, 97, 115], [105, 102], [105, 110, 112, 117, 116], [108, 101, 116], [109, 97, 120], [109, 101], [109, 105, 110], [114, 97, 110, 100], [114, 101, 97, 100, 115], [114, 101, 109, 111, 118, 101], [114, 101, 112, 101, 97, 116], [114, 101, 116, 117, 114, 110], [115, 112, 97, 119, 110], [115, 116, 111, 112], [115, 121, 115, 116, 101, 109], [116, 105, 99, 107], [119, 104, 105, 108, 101], [119, 105, 116, 104], [119, 105, 116, 104, 111, 117, 116], [119, 114, 105, 116, 101, 115]]
def wsL : List Value := ws.map fun l => Value.string ⟨l.toArray⟩
theorem fields_meaning : Lib.fields meaning.data.toList = ws := by kernel_rfl
theorem ascii_meaning : ∀ (j : Nat) b, meaning.data.toList[j]? = some b → b.toNat < 128 := by
  intro j b h
  have hm := List.mem_of_getElem? h
  have : meaning.data.toList.all (fun b => decide (b.toNat < 128)) = true := by kernel_rfl
  exact of_decide_eq_true (List.all_eq_true.1 this b hm)
/-- The library's table of blanks has its value. -/
def Tb (w : World) : Prop := Lib.TabIs Tryz.prog w "strings.asciiSpace" .u8 Lib.asciiSpaceTab
theorem gTab : Tryz.prog.globalNamed "strings.asciiSpace" = some 0 := by kernel_rfl
theorem Tb.below {w w' : World} {B : Nat} (h : Tb w) (hb : Below B w w') (hB : w.heap.size ≤ B) : Tb w' := Joins.tab_stays gTab h hb hB
theorem words_any (w : World) (ht : Tb w) : Calls Tryz.prog 23 #[] w fun e w' => e = .returned (.slice (some ⟨w.heap.size, 0, none⟩) 26 26) ∧ w' = w.alloc (.cells wsL.toArray 9) := by
  have c20 := Tryz.strings_Fields meaning w (by decide) ascii_meaning ht
  rw [fields_meaning] at c20
  go_enter Tryz.func23, Tryz.ntmps23
  go_wp2_with (go_at_call 42; refine c20.mono ?_; rintro e w' ⟨rfl, rfl⟩)
  go_ret
  exact ⟨rfl, rfl⟩
end Le
/-- The words. -/
def wsB : List ByteArray := Le.ws.map fun l => ⟨l.toArray⟩
/-- What the library's variables must hold. -/
def Kd (W : World) : Prop := Le.Wd W ∧ Le.Tb W
theorem Kd.below {W W' : World} (h : Kd W) (hb : Below W.heap.size W W') : Kd W' := ⟨h.1.below h.1.lt hb, h.2.below hb (Nat.le_refl _)⟩
theorem wz_holds : Wz Kd wsB := by
  intro W hK
  refine (Le.words_any W hK.2).mono ?_
  rintro e w' ⟨rfl, rfl⟩
  have hg := heap_alloc_new W (.cells Le.wsL.toArray 9)
  refine ⟨below_alloc W _, _, rfl, ⟨W.heap.size, 26, rfl, by decide, by decide, fun i hi => ?_⟩, fun j e => ?_⟩
  · rw [cell_of_row _ W.heap.size _ _ 9 (0, 0) hg]
    show Le.wsL.toArray[i]? = _
    rw [List.getElem?_toArray]
    have e : Le.wsL = wsB.map Value.string := by
      unfold wsB Le.wsL
      rw [List.map_map]
      rfl
    rw [e, List.getElem?_map, List.getElem?_eq_getElem hi]
    rfl
  · have e' : W.heap.size = j := Option.some.inj e
    have : (W.alloc (.cells Le.wsL.toArray 9)).heap.size = W.heap.size + 1 := Array.size_push ..
    omega
theorem lex_len2 {s : ByteArray} : ∀ (j a : Nat) (l : List Le.Tk), s.size + 1 ≤ j + a → a ≤ s.size → Le.lexF (Le.bt s) s.size j a = .ok l → l.length + a ≤ s.size + 1
  | 0, a, l, h1, h2, _ => by omega
  | j + 1, a, l, h1, h2, h => by
    have hz := Le.bt_z s
    rw [Le.lexF] at h
    cases hst : Le.stepL (Le.bt s) s.size a with
    | fin =>
      rw [hst] at h
      injection h with h
      subst h
      simp
      omega
    | go b =>
      rw [hst] at h
      have hb := Le.stepL_go hz hst
      have := lex_len2 j b l (by omega) hb.2.1 h
      omega
    | bad b =>
      rw [hst] at h
      cases h
    | tok k b e =>
      rw [hst] at h
      have h : Le.Rs.cons ⟨k, b, e⟩ (Le.lexF (Le.bt s) s.size j e) = .ok l := h
      obtain ⟨rfl, hb1, hb2, -, -⟩ := Le.stepL_tok hz hst
      cases hr : Le.lexF (Le.bt s) s.size j e with
      | no x =>
        rw [hr] at h
        cases h
      | ok l2 =>
        rw [hr] at h
        injection h with h
        subst h
        have := lex_len2 j e l2 (by omega) hb2 hr
        simp
        omega
theorem lex_len {s : ByteArray} (hs : s.size ≤ 8000) : ∀ (j a : Nat) (l : List Le.Tk), s.size + 1 ≤ j + a → a ≤ s.size → Le.lexF (Le.bt s) s.size j a = .ok l → l.length ≤ 8001
  | j, a, l, h1, h2, h => by
    have := lex_len2 j a l h1 h2 h
    omega
/-- What a source is read as. -/
def parseT (src : ByteArray) : R Tree := parseS wsB lxS 100000 src
theorem parseT_out (src : ByteArray) : parseT src ≠ .out := by
  unfold parseT parseS
  cases h : lxS src with
  | error p => intro h; cases h
  | ok ts =>
    have hl : ts.length ≤ 8001 := by
      unfold lxS at h
      split at h
      · split at h
        · rename_i l hl
          injection h with h
          subst h
          rw [List.length_map]
          exact lex_len (by assumption) (src.size + 1) 0 l (by omega) (by omega) hl
        · cases h
      · cases h
    exact (prog_ls wsB 100000 [] ⟨ts, 0, 0, 0, 0⟩ (show 6 * ts.length + 2 ≤ 100000 by omega)).1
/-- Parse, of any source. -/
theorem parse_all (src : ByteArray) (W : World) (hK : Kd W) : Calls Tryz.prog 8 #[.string src] W (Prs W (parseT src)) := parse_any pz_holds (fun W h => lx_holds src W h.1) wz_holds (fun _ _ h hb => h.below hb) (by decide) W hK rfl (parseT_out src)
end Go.Proofs.YtmfoehaeejhlpaaGreatDoor

/-
  What writes: the library's builder, as it lies in the writer.
-/
namespace Go.Proofs.YtmfoehaeejhlpaaGreatDoor
open Go.RowKit Yn
set_option maxRecDepth 100000
theorem size84 : (Tryz.prog.info? 84).map (fun i => i.size) = some 2 := by kernel_rfl
theorem lies86 : liesAt Tryz.prog Tryz.prog.depth 86 (2 / Tryz.prog.cellsOf 86) 0 84 1 = true := by kernel_rfl
theorem infoU8 : (Tryz.prog.info? 5).map (fun i => (i.zero, i.size, i.bytes)) = some (some (.int .u8 0), 1, 1) := by kernel_rfl
set_option maxHeartbeats 2000000 in
theorem cc_used (g : Nat) (w : World) (h0 : w.cell? ⟨g, 0, none⟩ = some (.pointer (some ⟨g, 0, none⟩))) : Calls Tryz.prog 117 #[.pointer (some ⟨g, 0, none⟩)] w fun e w' => e = .returned (.tuple #[]) ∧ w' = w := by
  obtain ⟨j, hj, _⟩ := Option.map_eq_some_iff.1 size84
  go_enter Tryz.func117, Tryz.ntmps117
  go_wp2_with fail
  rw [Lib.run_neq_ptr_same w _ Tryz.underlying81 hj]
  go_wp2_with fail
  go_end0
  exact ⟨rfl, rfl⟩
set_option maxHeartbeats 2000000 in
theorem cc_fresh (g : Nat) (w : World) (h0 : w.cell? ⟨g, 0, none⟩ = some (.pointer none)) (hsh : w.shape? g = some (86, 2)) (hfz : w.frozen? ⟨g, 0, none⟩ = false) : Calls Tryz.prog 117 #[.pointer (some ⟨g, 0, none⟩)] w fun e w' => e = .returned (.tuple #[]) ∧ w' = w.setCell ⟨g, 0, none⟩ (.pointer (some ⟨g, 0, none⟩)) := by
  obtain ⟨j, hj, hjs⟩ := Option.map_eq_some_iff.1 size84
  go_enter Tryz.func117, Tryz.ntmps117
  go_wp2_with fail
  rw [Lib.run_to_unsafe w ⟨g, 0, none⟩ Tryz.underlying81 Tryz.underlying188 hj (by rw [hjs]; decide) hsh (Nat.zero_lt_succ 1)]
  simp only [Result.andThen]
  rw [Oper.upon_value]
  go_wp2_with fail
  rw [run_callFunc_extern Tryz.func145 (by kernel_rfl) (by kernel_rfl) (by kernel_rfl) (e := Extern.AbiNoEscape.same) (by kernel_rfl)]
  rw [Lib.run_noEscape]
  simp only [Result.andThen]
  rw [Oper.upon_value]
  go_wp2_with fail
  rw [Lib.run_from_unsafe w ⟨g, 0, none⟩ Tryz.underlying188 Tryz.underlying81 hj hsh lies86]
  simp only [Result.andThen]
  rw [Oper.upon_value]
  go_wp2_with fail
  go_end0
  exact ⟨rfl, rfl⟩
/-- The writer, and what it has written. -/
def Bt (B g : Nat) (l : List UInt8) (w : World) : Prop := B ≤ w.heap.size ∧ Lib.IsBuilder 86 5 B g (Lib.byteCells l) w
/-- Its own blocks, by their kinds. -/
def T5 (g : Nat) (w : World) (j : Nat) : Prop := j = g ∨ ∃ cs q, w.heap[j]? = some (.cells cs 5 q)
theorem T5.trans {g : Nat} {w w' w2 : World} (h : Mv w w' (T5 g w)) (k : Mv w' w2 (T5 g w')) : Mv w w2 (T5 g w) := h.trans k (fun j hj e => by
  rcases e with e | ⟨cs, q, e⟩
  · exact .inl e
  · by_cases hn : T5 g w j
    · exact hn
    · rw [h.2.2.2.2 j hj hn] at e
      exact .inr ⟨cs, q, e⟩)
/-- What a piece of writing leaves. -/
def Wo (B g : Nat) (l : List UInt8) (w w' : World) : Prop := Bt B g l w' ∧ Below B w w' ∧ Mv w w' (T5 g w)
theorem Wo.trans {B g : Nat} {l l2 : List UInt8} {w w' w2 : World} (h : Wo B g l w w') (k : Wo B g l2 w' w2) : Wo B g l2 w w2 := ⟨k.1, h.2.1.trans k.2.1, T5.trans h.2.2 k.2.2⟩
theorem Wo.refl {B g : Nat} {l : List UInt8} {w : World} (h : Bt B g l w) : Wo B g l w w := ⟨h, Below.refl _ _, Mv.refl _ _⟩
theorem own_5 {w : World} {B n j : Nat} {v : Value} {xs : List Value} (h : w.ownsRow B 5 1 v n xs) (e : v.ownBlock = some j) : ∃ cs q, w.heap[j]? = some (.cells cs 5 q) := by
  rcases h.2 with ⟨rfl, -⟩ | ⟨g, c, cur, rfl, -, h2, -⟩
  · cases e
  · have : g = j := by simpa [Value.ownBlock] using e
    subst this
    exact ⟨_, _, h2⟩
theorem bytes_str (l : List UInt8) (s : ByteArray) : Lib.byteCells l ++ Lib.strCells s = Lib.byteCells (l ++ s.data.toList) := by
  unfold Lib.byteCells Lib.strCells
  rw [List.map_append]
set_option maxHeartbeats 4000000 in
theorem ws_any {B g : Nat} {l : List UInt8} (s : ByteArray) (w : World) (h : Bt B g l w) (hlen : l.length + s.size ≤ 140737488355328) : Calls Tryz.prog 87 #[.pointer (some ⟨g, 0, none⟩), .string s] w fun e w' => e = .returned (.tuple #[.int .i64 s.size, .nilIface]) ∧ Wo B g (l ++ s.data.toList) w w' := by
  obtain ⟨i0, hi, hz0, hz1, hz2⟩ := info_parts infoU8
  obtain ⟨hBw, h⟩ := h
  have hll : (Lib.byteCells l).length = l.length := by simp [Lib.byteCells]
  have CC : Calls Tryz.prog 117 #[.pointer (some ⟨g, 0, none⟩)] w fun e w' => e = .returned (.tuple #[]) ∧ Lib.BuilderAt 86 5 B g (.pointer (some ⟨g, 0, none⟩)) (Lib.byteCells l) w' ∧ Below B w w' ∧ Mv w w' (T5 g w) := by
    rcases h with h | h
    · refine (cc_fresh g w h.cell0 h.shape h.frozen0).mono ?_
      rintro e w' ⟨rfl, rfl⟩
      exact ⟨rfl, h.used _, (Below.refl B w).setCell (p := ⟨g, 0, none⟩) h.1 _, (Mv.refl w _).set (.inl rfl) 0 _⟩
    · refine (cc_used g w h.cell0).mono ?_
      rintro e w' ⟨rfl, rfl⟩
      exact ⟨rfl, h, Below.refl B _, Mv.refl _ _⟩
  clear h
  go_enter Tryz.func87, Tryz.ntmps87
  go_wp2_with fail
  refine CC.mono ?_
  rintro e w1 ⟨rfl, h1, hb1, hm1⟩
  obtain ⟨hB, v, hbk, hown, hne⟩ := h1
  have c0 : w1.cell? ⟨g, 0, none⟩ = some (.pointer (some ⟨g, 0, none⟩)) := by rw [Lib.cell_of_heap hbk]; rfl
  have c1 : w1.cell? ⟨g, 1, none⟩ = some v := by rw [Lib.cell_of_heap hbk]; rfl
  go_wp2_with (at_builtin; refine Lib.wpList_append_own_string _ rfl _ _ 82 9 rfl B 5 i0 Tryz.underlying82 Tryz.underlying9 hi hz0 hz1 hz2 _ _ _ rfl hown s rfl ?c3 ?c4 ?c5 ?_)
  case c3 => unfold maxLen; omega
  case c4 => omega
  case c5 => have := hb1.size; omega
  intro v' w2 hown' hgrow _
  have hlt : g < w1.heap.size := by
    rcases Nat.lt_or_ge g w1.heap.size with h' | h'
    · exact h'
    · simp [Array.getElem?_eq_none h'] at hbk
  have hb2 : w2.heap[g]? = some (.cells #[.pointer (some ⟨g, 0, none⟩), v] 86 (0, 0)) := by
    rw [hgrow.block g hlt (fun e => hne e.symm)]
    exact hbk
  have d0 : w2.cell? ⟨g, 0, none⟩ = some (.pointer (some ⟨g, 0, none⟩)) := by rw [Lib.cell_of_heap hb2]; rfl
  have d1 : w2.cell? ⟨g, 1, none⟩ = some v := by rw [Lib.cell_of_heap hb2]; rfl
  have f1 : w2.frozen? ⟨g, 1, none⟩ = false := Lib.frozen_of_heap hb2 1
  obtain ⟨ao, n', cap, rfl⟩ : ∃ ao n' cap, v' = .slice ao n' cap := by
    rcases hown'.2 with ⟨hv, _⟩ | ⟨g, cap, cur, hv, _⟩
    · exact ⟨_, _, _, hv⟩
    · exact ⟨_, _, _, hv⟩
  have HW : Wo B g (l ++ s.data.toList) w (w2.setCell ⟨g, 1, none⟩ (.slice ao n' cap)) := by
    refine ⟨⟨?_, .inr ?_⟩, ?_, ?_⟩
    · have := hb1.size
      have := hgrow.size
      rw [World.size_setCell]
      omega
    · rw [← bytes_str]
      exact Lib.BuilderAt.put (T := 86) (e := 5) hB hb2 (bs' := Lib.byteCells l ++ Lib.strCells s) (by rw [List.length_append, Lib.strCells_length, hll]; exact hown') (by decide)
    · exact (hb1.grown hgrow (by have := hb1.size; omega) (fun k hk => (hown.lt k hk).1)).setCell (p := ⟨g, 1, none⟩) hB _
    · refine T5.trans hm1 (((Mv.refl w1 (T5 g w1)).grown hgrow (fun k hk e => .inr (own_5 hown e))).set (.inl rfl) 1 _)
  clear hown' hgrow hown hm1 hb1 hbk hb2 CC
  go_wp2_with fail
  go_ret2
  exact ⟨rfl, HW⟩
end Go.Proofs.YtmfoehaeejhlpaaGreatDoor

/-
  What writes: several texts, one behind the other.
-/
namespace Go.Proofs.YtmfoehaeejhlpaaGreatDoor
open Go.RowKit Yn
set_option maxRecDepth 100000
theorem Bt.later {B g : Nat} {l : List UInt8} {w w' : World} (h : Bt B g l w) (hb : Below w.heap.size w w') : Bt B g l w' := by
  obtain ⟨hB, h⟩ := h
  have one : ∀ p, Lib.BuilderAt 86 5 B g p (Lib.byteCells l) w → Lib.BuilderAt 86 5 B g p (Lib.byteCells l) w' := fun p hp => by
    have hlt := hp.lt
    obtain ⟨h1, v, h2, h3, h4⟩ := hp
    exact ⟨h1, v, (hb.block g hlt).trans h2, own_later h3 hb, h4⟩
  exact ⟨Nat.le_trans hB hb.size, h.imp (one _) (one _)⟩
theorem Bt.lt {B g : Nat} {l : List UInt8} {w : World} (h : Bt B g l w) : g < w.heap.size := by
  rcases h.2 with h | h <;> exact h.lt
theorem wo_later {B g : Nat} {l : List UInt8} {w w' : World} (h : Bt B g l w) (hb : Below w.heap.size w w') : Wo B g l w w' := ⟨h.later hb, hb.mono h.1, Mv.of_below hb _⟩
def catB (ss : List ByteArray) : List UInt8 := (ss.map fun s => s.data.toList).flatten
theorem cat_take {ss : List ByteArray} {i : Nat} (hi : i < ss.length) : catB (ss.take (i + 1)) = catB (ss.take i) ++ ss[i].data.toList := by
  unfold catB
  rw [List.take_succ_eq_append_getElem hi, List.map_append, List.flatten_append]
  simp
theorem cat_le (ss : List ByteArray) (i : Nat) : (catB (ss.take i)).length ≤ (catB ss).length := by
  have : catB ss = catB (ss.take i) ++ catB (ss.drop i) := by
    unfold catB
    rw [← List.flatten_append, ← List.map_append, List.take_append_drop]
  rw [this, List.length_append]
  omega
set_option maxHeartbeats 4000000 in
theorem put_any {B g k : Nat} {l : List UInt8} (ss : List ByteArray) (w : World) (h : Bt B g l w) (hk : w.heap[k]? = some (.cells (ss.map Value.string).toArray 9 (0, 0))) (hkg : k ≠ g) (hn : ss.length ≤ 1048576) (hlen : l.length + (catB ss).length ≤ 140737488355328) : Calls Tryz.prog 57 #[.pointer (some ⟨g, 0, none⟩), .slice (some ⟨k, 0, none⟩) ss.length ss.length] w fun e w' => e = .returned (.tuple #[]) ∧ Wo B g (l ++ catB ss) w w' := by
  have H0 : Hid (Wo B g (l ++ catB (ss.take 0)) w w) := by
    have e : l ++ catB (ss.take 0) = l := by simp [catB]
    unfold Hid
    rw [e]
    exact Wo.refl h
  have CE : Hid (∀ wr l', Wo B g l' w wr → ∀ i (hi : i < ss.length), wr.cell? ⟨k, i, none⟩ = some (.string ss[i])) := fun wr l' hw i hi => by
    have hb := hw.2.2.at hk (fun e => by
      rcases e with e | ⟨cs, q, e⟩
      · exact hkg e
      · rw [hk] at e
        injection e with e
        injection e with _ e _
        exact absurd e (by decide))
    rw [cell_of_row wr k i _ 9 (0, 0) hb]
    simp [hi]
  obtain ⟨n, hnn⟩ : ∃ n, n = ss.length := ⟨_, rfl⟩
  have HNN := hide hnn
  have HL := hide hlen
  rw [← hnn] at hn
  rw [← hnn]
  clear h hk hkg hlen hnn
  go_enter Tryz.func57, Tryz.ntmps57
  go_wp2_with fail
  go_loopw [8] (fun v8 wr => ∃ i : Nat, v8 = .int .i64 (i : Int) ∧ i ≤ n ∧ Hid (Wo B g (l ++ catB (ss.take i)) w wr)) (fun v8 _ => n - (intOf v8).toNat)
  case atStart => exact ⟨0, rfl, by omega, H0.out⟩
  case round =>
    obtain ⟨i, rfl, hi1, hw⟩ := hrel
    by_cases hi2 : i < n
    · have hil : i < ss.length := by rw [← HNN.out]; exact hi2
      have c0 := CE.out wr _ hw.out i hil
      have J := hide (ws_any ss[i] wr hw.out.1 (by
        have h1 := cat_le ss (i + 1)
        rw [cat_take hil, List.length_append] at h1
        have h2 := HL.out
        have h3 : ss[i].data.toList.length = ss[i].size := by rw [Array.length_toList]; rfl
        rw [List.length_append]
        omega))
      have i9 : (i : Int) < (n : Int) := by omega
      have E1 : Hid (l ++ catB (ss.take i) ++ ss[i].data.toList = l ++ catB (ss.take (i + 1))) := by
        unfold Hid
        rw [cat_take hil, List.append_assoc]
      generalize ss[i] = t at *
      go_wp2_with fail
      refine J.out.mono ?_
      rintro e w2 ⟨rfl, h2⟩
      rw [E1.out] at h2
      have H2 := hide (hw.out.trans h2)
      clear h2 J
      go_wp2_with fail
      exact ⟨⟨i + 1, by go_num, by omega, H2.out⟩, by simp [intOf]; omega⟩
    · obtain rfl : n = i := by omega
      have H9 : Hid (Wo B g (l ++ catB ss) w wr) := by
        have h := hw.out
        rw [HNN.out, List.take_length] at h
        exact h
      go_wp2_with fail
      go_end0
      exact ⟨rfl, H9.out⟩
/-- Texts in a list of their own. -/
theorem put_lit {B g : Nat} {l : List UInt8} (ss : List ByteArray) (w : World) (h : Bt B g l w) (hn : ss.length ≤ 1048576) (hlen : l.length + (catB ss).length ≤ 140737488355328) : Calls Tryz.prog 57 #[.pointer (some ⟨g, 0, none⟩), .slice (some ⟨w.heap.size, 0, none⟩) ss.length ss.length] (w.alloc (.cells (ss.map Value.string).toArray 9)) fun e w' => e = .returned (.tuple #[]) ∧ Wo B g (l ++ catB ss) w w' := by
  have hb := below_alloc w (.cells (ss.map Value.string).toArray 9)
  refine (put_any (k := w.heap.size) ss _ (h.later hb) (heap_alloc_new w _) (by have := h.lt; omega) hn hlen).mono ?_
  rintro e w' ⟨rfl, hw⟩
  exact ⟨rfl, (wo_later h hb).trans hw⟩
end Go.Proofs.YtmfoehaeejhlpaaGreatDoor
