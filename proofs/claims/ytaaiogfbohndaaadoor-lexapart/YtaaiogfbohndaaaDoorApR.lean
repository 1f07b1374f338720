/-
  Tokens put together again are the same.
-/
import Derived.Test.YtaaiogfbohndaaaDoorApM
import Derived.Test.YtaaiogfbohndaaaDoorNuM
namespace Go.Proofs.YtaaiogfbohndaaaDoor

def gapB : Nat → ByteArray
  | 0 => ⟨#[32]⟩
  | 1 => ⟨#[10]⟩
  | 2 => ⟨#[32, 47, 42, 32, 120, 32, 42, 47]⟩
  | 3 => ⟨#[9, 47, 47, 32, 121, 10]⟩
  | _ => ⟨#[13, 32]⟩
theorem gapB_le (j : Nat) : (gapB j).size ≤ 8 ∧ 1 ≤ (gapB j).size ∧ isBl (bt (gapB j) 0) = true := by
  match j with
  | 0 => decide
  | 1 => decide
  | 2 => decide
  | 3 => decide
  | _ + 4 => exact (by decide : (⟨#[13, 32]⟩ : ByteArray).size ≤ 8 ∧ 1 ≤ (⟨#[13, 32]⟩ : ByteArray).size ∧ isBl (bt ⟨#[13, 32]⟩ 0) = true)
theorem gap_one {f : Nat → Nat} {n a : Nat} (hz : Fz f n) (h : isBl (f a) = true) : lexA f n a = lexA f n (a + 1) := (lexA_blank hz h).2
theorem gap_go (j : Nat) {f : Nat → Nat} {n a : Nat} (hz : Fz f n) (hf : ∀ i, i < (gapB j).size → f (a + i) = bt (gapB j) i) (hn : a + (gapB j).size ≤ n) :
    lexA f n a = lexA f n (a + (gapB j).size) := by
  match j with
  | 0 => exact gap_one hz (by have := hf 0 (by decide); rw [Nat.add_zero] at this; rw [this]; rfl)
  | 1 => exact gap_one hz (by have := hf 0 (by decide); rw [Nat.add_zero] at this; rw [this]; rfl)
  | 2 =>
    have g : ∀ i, i < 8 → f (a + i) = bt ⟨#[32, 47, 42, 32, 120, 32, 42, 47]⟩ i := hf
    have g0 : f a = 32 := g 0 (by omega)
    have g1 : f (a + 1) = 47 := g 1 (by omega)
    have g2 : f (a + 2) = 42 := g 2 (by omega)
    have g3 : f (a + 3) = 32 := g 3 (by omega)
    have g4 : f (a + 4) = 120 := g 4 (by omega)
    have g5 : f (a + 5) = 32 := g 5 (by omega)
    have g6 : f (a + 6) = 42 := g 6 (by omega)
    have g7 : f (a + 7) = 47 := g 7 (by omega)
    have hn' : a + 8 ≤ n := hn
    rw [gap_one hz (by rw [g0]; rfl), (lexA_rem hz ⟨g1, g2⟩).2]
    rw [remE_is (n - (a + 1 + 2)) (a + 1 + 2) (a + 8) (by omega) (by omega) g6 g7]
    · rfl
    · intro j h1 h2 h3
      obtain h | h | h : j = a + 3 ∨ j = a + 4 ∨ j = a + 5 := by omega
      · rw [h] at h3; omega
      · rw [h] at h3; omega
      · rw [h] at h3; omega
  | 3 =>
    have g : ∀ i, i < 6 → f (a + i) = bt ⟨#[9, 47, 47, 32, 121, 10]⟩ i := hf
    have g0 : f a = 9 := g 0 (by omega)
    have g1 : f (a + 1) = 47 := g 1 (by omega)
    have g2 : f (a + 1 + 1) = 47 := g 2 (by omega)
    have g3 : f (a + 3) = 32 := g 3 (by omega)
    have g4 : f (a + 4) = 121 := g 4 (by omega)
    have g5 : f (a + 5) = 10 := g 5 (by omega)
    have hn' : a + 6 ≤ n := hn
    rw [gap_one hz (by rw [g0]; rfl), (lexA_line hz ⟨g1, g2⟩).2]
    rw [runE_is (fun j => f j != 10) (n - (a + 1)) (a + 1) (a + 5) (by omega) _ (Or.inl ⟨by simp [g5], by omega⟩)]
    · exact gap_one hz (by rw [g5]; rfl)
    · intro j h1 h2
      obtain h | h | h | h : j = a + 1 ∨ j = a + 1 + 1 ∨ j = a + 3 ∨ j = a + 4 := by omega
      · rw [h]; simp [g1]
      · rw [h]; simp [g2]
      · rw [h]; simp [g3]
      · rw [h]; simp [g4]
  | _ + 4 =>
    have g : ∀ i, i < 2 → f (a + i) = bt ⟨#[13, 32]⟩ i := hf
    have g0 : f a = 13 := g 0 (by omega)
    have g1 : f (a + 1) = 32 := g 1 (by omega)
    rw [gap_one hz (by rw [g0]; rfl)]
    exact gap_one hz (by rw [g1]; rfl)

def kt (s : ByteArray) (l : List Tk) : List (Nat × ByteArray) := l.map fun t => (t.k, s.extract t.a t.e)
/-- What is read of a beginning, whatever comes behind a blank. -/
def Pre (S : ByteArray) (d : List (Nat × ByteArray)) : Prop := ∀ r : ByteArray, (r.size = 0 ∨ isBl (bt r 0) = true) →
  ∃ l, kt (S ++ r) l = d ∧ lexS (S ++ r) = Rs.pre l (lexA (bt (S ++ r)) (S ++ r).size S.size)
theorem pre_nil : Pre ByteArray.empty [] := fun r _ => ⟨[], rfl, by rw [Rs.pre_nil]; rfl⟩
theorem bt_mid (S G T : ByteArray) (i : Nat) : bt (S ++ (G ++ T)) (S.size + i) = bt (G ++ T) i := by
  rw [bt_app, if_neg (by omega), show S.size + i - S.size = i by omega]
theorem Rs.pre_pre (p q : List Tk) (r : Rs) : Rs.pre p (Rs.pre q r) = Rs.pre (p ++ q) r := by cases r <;> simp [Rs.pre]
theorem ext_mid (X T r : ByteArray) (n m : Nat) (hn : X.size = n) (hm : T.size = m) : (X ++ (T ++ r)).extract n (n + m) = T := by
  apply ByteArray.ext
  apply Array.toList_inj.1
  have e : (X ++ (T ++ r)).data.toList = X.data.toList ++ (T.data.toList ++ r.data.toList) := by simp [ByteArray.data_append]
  have lx : X.data.toList.length = n := by rw [Array.length_toList]; exact hn
  have lt : T.data.toList.length = m := by rw [Array.length_toList]; exact hm
  rw [ext_data, e, List.drop_left' lx, show n + m - n = m by omega, List.take_left' lt]
theorem pre_step {S src : ByteArray} {d : List (Nat × ByteArray)} (h : Pre S d) (j : Nat) {k a e : Nat} (hs : stepL (bt src) src.size a = .tok k a e) :
    Pre ((S ++ gapB j) ++ src.extract a e) (d ++ [(k, src.extract a e)]) := by
  intro r hr
  obtain ⟨_, ha, he, _⟩ := stepL_tok (bt_z src) hs
  have hgz := gapB_le j
  have hzT : (src.extract a e).size = e - a := by rw [ByteArray.size_extract]; omega
  have hbT : ∀ i, i < e - a → bt (src.extract a e) i = bt src (a + i) := fun i hi => by rw [bt_ext src a e i he, if_pos (by omega)]
  have hgo := @gap_go j
  generalize src.extract a e = T at *
  generalize gapB j = G at *
  have hassoc : ((S ++ G) ++ T) ++ r = S ++ (G ++ (T ++ r)) := by rw [ByteArray.append_assoc, ByteArray.append_assoc]
  have hG0 : bt (G ++ (T ++ r)) 0 = bt G 0 := by rw [bt_app, if_pos (by omega)]
  obtain ⟨l, hl1, hl2⟩ := h (G ++ (T ++ r)) (Or.inr (by rw [hG0]; exact hgz.2.2))
  rw [hassoc]
  have hz := bt_z (S ++ (G ++ (T ++ r)))
  have hsz : (S ++ (G ++ (T ++ r))).size = S.size + (G.size + (T.size + r.size)) := by rw [size_app, size_app, size_app]
  have hbG : ∀ i, i < G.size → bt (S ++ (G ++ (T ++ r))) (S.size + i) = bt G i := fun i hi => by rw [bt_mid, bt_app, if_pos hi]
  have hbT2 : ∀ i, bt (S ++ (G ++ (T ++ r))) (S.size + G.size + i) = bt (T ++ r) i := fun i => by
    rw [Nat.add_assoc, bt_mid, bt_app, if_neg (by omega), show G.size + i - G.size = i by omega]
  have e1 := hgo hz hbG (by omega)
  have hsep : Sep (bt (S ++ (G ++ (T ++ r))) (S.size + G.size + (e - a))) := by
    rw [hbT2, bt_app, if_neg (by omega), hzT, Nat.sub_self]
    rcases hr with hr | hr
    · exact Or.inr (bt_z r 0 (by omega))
    · exact Or.inl hr
  have e2 := tok_again (g := bt (S ++ (G ++ (T ++ r)))) (m := (S ++ (G ++ (T ++ r))).size) (b := S.size + G.size) (bt_z src) hs
    (fun i hi => by rw [hbT2, bt_app, if_pos (by omega), hbT i hi]) (by omega) hsep
  have e3 := lexA_tok hz (by omega) e2
  have hS' : ((S ++ G) ++ T).size = S.size + G.size + (e - a) := by rw [size_app, size_app, hzT]
  refine ⟨l ++ [⟨k, S.size + G.size, S.size + G.size + (e - a)⟩], ?_, ?_⟩
  · unfold kt at hl1 ⊢
    rw [List.map_append, hl1]
    congr 1
    simp only [List.map_cons, List.map_nil]
    congr 2
    have : S ++ (G ++ (T ++ r)) = (S ++ G) ++ (T ++ r) := by rw [ByteArray.append_assoc]
    rw [this]
    exact ext_mid (S ++ G) T r _ _ (size_app S G) hzT
  · rw [hl2, e1, e3, Rs.pre_cons, hS']
/-- The end. -/
theorem pre_end {S : ByteArray} {d : List (Nat × ByteArray)} (h : Pre S d) (j : Nat) :
    ∃ l, lexS ((S ++ gapB j) ++ ByteArray.empty) = .ok l ∧ kt ((S ++ gapB j) ++ ByteArray.empty) l = d ++ [(0, ByteArray.empty)] := by
  have hgz := gapB_le j
  have hgo := @gap_go j
  generalize gapB j = G at *
  have e0 : (S ++ G) ++ ByteArray.empty = S ++ G := by simp
  rw [e0]
  obtain ⟨l, hl1, hl2⟩ := h G (Or.inr hgz.2.2)
  have hz := bt_z (S ++ G)
  have hsz : (S ++ G).size = S.size + G.size := size_app S G
  have e1 := hgo hz (a := S.size) (fun i hi => by rw [bt_app, if_neg (by omega), show S.size + i - S.size = i by omega]) (by omega)
  rw [← hsz, lexA_fin hz] at e1
  refine ⟨l ++ [⟨0, (S ++ G).size, (S ++ G).size⟩], ?_, ?_⟩
  · rw [hl2, e1]; rfl
  · unfold kt at hl1 ⊢
    rw [List.map_append, hl1]
    congr 1
    simp

/-- What stands between two tokens. -/
theorem between_lex {src : ByteArray} {a b : Nat} (hg : Gap (bt src) src.size a b) (hb : b ≤ src.size) :
    lexS (src.extract a b) = .ok [⟨0, b - a, b - a⟩] := by
  have hle := (hg.le (bt_z src)).1
  have hz : (src.extract a b).size = b - a := by rw [ByteArray.size_extract]; omega
  have h := gap_piece (g := bt (src.extract a b)) (bt_z src) (fun i => bt_ext src a b i hb) hg (Nat.le_refl a)
  rw [Nat.sub_self] at h
  unfold lexS
  rw [hz]
  exact h
end Go.Proofs.YtaaiogfbohndaaaDoor
