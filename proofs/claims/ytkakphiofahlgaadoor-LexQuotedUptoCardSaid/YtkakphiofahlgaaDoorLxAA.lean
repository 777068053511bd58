/- What a scanner answers hangs on the bytes that it goes over. No condition. -/
import Derived.Test.YtkakphiofahlgaaDoorLxU
namespace Go.Proofs.YtkakphiofahlgaaDoor
open Go.RowKit Go.PlainAid

/-- The bytes of s below M stand in z from A on; the last of them is a byte 10. -/
structure Agr (s z : ByteArray) (A M : Nat) : Prop where
  byte : ∀ i, i < M → z.data.toList[A + i]? = s.data.toList[i]?
  hs : M ≤ s.size
  hz : A + M ≤ z.size
  pos : 0 < M
  nl : bt s (M - 1) = 10
theorem bt_at {s : ByteArray} {i : Nat} (hi : i < s.size) : ∃ c : UInt8, s.data.toList[i]? = some c ∧ bt s i = (c.toNat : Int) := by
  refine ⟨s[i]'hi, ?_, by unfold bt; rw [dif_pos hi]⟩
  rw [List.getElem?_eq_getElem (by rw [← Lib.size_eq]; exact hi)]
  rfl
theorem ba_data {a b : ByteArray} (h : a.data.toList = b.data.toList) : a = b := by
  obtain ⟨⟨x⟩⟩ := a
  obtain ⟨⟨y⟩⟩ := b
  obtain rfl : x = y := h
  rfl
section
variable {s z : ByteArray} {A M : Nat}
theorem Agr.bt (h : Agr s z A M) {i : Nat} (hi : i < M) : bt z (A + i) = bt s i := by
  have h1 := h.hs
  have h2 := h.hz
  obtain ⟨c, c1, c2⟩ := bt_at (s := s) (i := i) (by omega)
  obtain ⟨d, d1, d2⟩ := bt_at (s := z) (i := A + i) (by omega)
  rw [h.byte i hi, c1] at d1
  obtain rfl : c = d := by simpa using d1
  rw [c2, d2]
theorem Agr.ext (h : Agr s z A M) {i j : Nat} (hj : j ≤ M) : z.extract (A + i) (A + j) = s.extract i j := by
  refine ba_data ?_
  rw [Lib.extract_data, Lib.extract_data]
  refine List.ext_getElem? fun k => ?_
  rw [List.getElem?_take, List.getElem?_take, List.getElem?_drop, List.getElem?_drop]
  by_cases hk : k < j - i
  · rw [if_pos (by omega), if_pos hk, Nat.add_assoc]
    exact h.byte (i + k) (by omega)
  · rw [if_neg (by omega), if_neg hk]
theorem Agr.not_last (h : Agr s z A M) {i : Nat} (hi : i < M) (hb : PlainAid.bt s i ≠ 10) : i + 1 < M := by
  by_cases e : i = M - 1
  · subst e; exact absurd h.nl hb
  · omega
end
theorem rest_get {s : ByteArray} {i k : Nat} (hk : i + k < s.size) : (s.extract i s.size).data.toList[k]? = s.data.toList[i + k]? := by
  rw [Lib.extract_data, List.getElem?_take, if_pos (by omega), List.getElem?_drop]
theorem idx_of {s : ByteArray} {i k : Nat} {c : UInt8} (hk : i + k < s.size) (h1 : s.data.toList[i + k]? = some c) (h2 : ∀ j, j < k → s.data.toList[i + j]? ≠ some c) : Lib.indexByte (s.extract i s.size).data.toList c = k := by
  have hge := Lib.indexByte_ge (s.extract i s.size).data.toList c
  by_cases h : Lib.indexByte (s.extract i s.size).data.toList c = -1
  · exact absurd (by rw [rest_get hk]; exact h1) (Lib.indexByte_none h k)
  · obtain ⟨o, ho⟩ : ∃ o : Nat, Lib.indexByte (s.extract i s.size).data.toList c = o := ⟨(Lib.indexByte (s.extract i s.size).data.toList c).toNat, by omega⟩
    obtain ⟨g1, g2⟩ := Lib.indexByte_some ho
    rw [ho]
    rcases Nat.lt_trichotomy o k with hlt | rfl | hgt
    · rw [rest_get (by omega)] at g1
      exact absurd g1 (h2 o hlt)
    · rfl
    · exact absurd (by rw [rest_get hk]; exact h1) (g2 k hgt)
section
variable {s z : ByteArray} {A M : Nat}
theorem Agr.idx (h : Agr s z A M) {i k : Nat} {c : UInt8} (hk : i + k < M) (hi : Lib.indexByte (s.extract i s.size).data.toList c = k) : Lib.indexByte (z.extract (A + i) z.size).data.toList c = k := by
  have e1 := h.hs
  have e2 := h.hz
  obtain ⟨g1, g2⟩ := Lib.indexByte_some hi
  rw [rest_get (by omega)] at g1
  refine idx_of (by omega) ?_ (fun j hj => ?_)
  · rw [Nat.add_assoc, h.byte _ hk]; exact g1
  · rw [Nat.add_assoc, h.byte _ (by omega)]
    have := g2 j hj
    rwa [rest_get (by omega)] at this
/-- The answer in z is the answer in s, further on. -/
def Ok (A M : Nat) (r r' : R3) : Prop := r.err = 0 → r.next ≤ M → r' = ⟨A + r.next, 0, 0⟩
theorem beg_agr (h : Agr s z A M) {i : Nat} (hi : i < M) (q : Bool) : begM z (A + i) q = begM s i q := by
  have e1 := h.hs
  have e2 := h.hz
  unfold begM
  rw [h.bt hi]
  split
  · rfl
  · split
    · rfl
    · split
      · rename_i h36
        have hn := h.not_last hi (by simp at h36; omega)
        rw [show A + i + 1 = A + (i + 1) from rfl, h.bt hn, decide_eq_true (show A + (i + 1) < z.size by omega), decide_eq_true (show i + 1 < s.size by omega)]
      · rfl
theorem beg_not {s : ByteArray} {i : Nat} {q : Bool} (h : begM s i q = true) : bt s i ≠ 10 := by
  intro e
  unfold begM at h
  rw [e] at h
  simp at h
theorem pass_agr {wh wh' : Nat → Bool → R3} (h : Agr s z A M) {i : Nat} (hi : i < M) (q : Bool) (hw : i + 1 < M → Ok A M (wh i q) (wh' (A + i) q)) : Ok A M (passM wh s i q) (passM wh' z (A + i) q) := by
  have e1 := h.hs
  have e2 := h.hz
  intro he hn
  unfold passM at he hn ⊢
  rw [h.bt hi, beg_agr h hi]
  cases h92 : (bt s i == 92)
  · simp only [h92, Bool.false_eq_true, if_false] at he hn ⊢
    cases h96 : (bt s i == 96)
    · simp only [h96, Bool.false_eq_true, if_false] at he hn ⊢
      cases hb : begM s i q
      · simp only [Bool.false_eq_true, if_false]; rfl
      · simp only [hb, if_true] at he hn ⊢
        exact hw (h.not_last hi (beg_not hb)) he hn
    · rw [h96, if_pos rfl] at he
      simp at he
  · have hl := h.not_last hi (by simp at h92; omega)
    simp only [if_true]
    simp only [R3.mk.injEq, and_true]
    omega
theorem loop_agr {p p' : Nat → R3} {b b' : Nat} {c : Int} (h : Agr s z A M) (hp : ∀ j, j < M → Ok A M (p j) (p' (A + j))) (hg : ∀ j, j < s.size → Good s j (p j)) :
    ∀ (f i f' : Nat), M ≤ i + f' → Ok A M (loopM p s b c f i) (loopM p' z b' c f' (A + i))
  | 0, i, f', _ => fun he _ => by simp [loopM] at he
  | f + 1, i, f', hf => fun he hn => by
    have e1 := h.hs
    have e2 := h.hz
    by_cases hi : i < s.size
    · cases hc : (bt s i == c)
      · by_cases hpe : (p i).err = 0
        · have e : loopM p s b c (f + 1) i = loopM p s b c f (p i).next := by rw [loopM, if_pos hi, hc, if_neg (by decide), if_pos hpe]
          rw [e] at he hn ⊢
          have hgi := hg i hi hpe
          have hgt := (loop_good hg f (p i).next hgi.1 he).1
          have hle : (p i).next ≤ M := by
            have := (loop_good (b0 := (p i).next - 1) hg f (p i).next (by omega) he).1
            omega
          have hiM : i < M := by omega
          obtain ⟨g, rfl⟩ : ∃ g, f' = g + 1 := ⟨f' - 1, by omega⟩
          have ez : loopM p' z b' c (g + 1) (A + i) = loopM p' z b' c g (A + (p i).next) := by
            rw [loopM, if_pos (by omega), h.bt hiM, hc, if_neg (by decide), hp i hiM hpe hle, if_pos rfl]
          rw [ez]
          exact loop_agr h hp hg f (p i).next g (by omega) he hn
        · rw [loopM, if_pos hi, hc, if_neg (by decide), if_neg hpe] at he
          exact absurd he hpe
      · have e : loopM p s b c (f + 1) i = ⟨i + 1, 0, 0⟩ := by rw [loopM, if_pos hi, hc, if_pos rfl]
        rw [e] at hn ⊢
        have hiM : i < M := hn
        obtain ⟨g, rfl⟩ : ∃ g, f' = g + 1 := ⟨f' - 1, by omega⟩
        rw [loopM, if_pos (by omega), h.bt hiM, hc, if_pos rfl]
        rfl
    · rw [loopM, if_neg hi] at he
      simp at he
theorem cmd_agr {p p' : Nat → R3} {b b' : Nat} (h : Agr s z A M) (hp : ∀ j, j < M → Ok A M (p j) (p' (A + j))) (hg : ∀ j, j < s.size → Good s j (p j)) :
    ∀ (f i f' o : Nat), M ≤ i + f' → Ok A M (cmdM p s b f i o) (cmdM p' z b' f' (A + i) o)
  | 0, i, f', o, _ => fun he _ => by simp [cmdM] at he
  | f + 1, i, f', o, hf => fun he hn => by
    have e1 := h.hs
    have e2 := h.hz
    by_cases hi : i < s.size
    · cases h40 : (bt s i == 40)
      · cases h41 : (bt s i == 41)
        · by_cases hpe : (p i).err = 0
          · have e : cmdM p s b (f + 1) i o = cmdM p s b f (p i).next o := by rw [cmdM, if_pos hi, h40, if_neg (by decide), h41, if_neg (by decide), if_pos hpe]
            rw [e] at he hn ⊢
            have hgi := hg i hi hpe
            have hgt := (cmd_good hg f (p i).next o hgi.1 he).1
            have hle : (p i).next ≤ M := by
              have := (cmd_good (b0 := (p i).next - 1) hg f (p i).next o (by omega) he).1
              omega
            have hiM : i < M := by omega
            obtain ⟨g, rfl⟩ : ∃ g, f' = g + 1 := ⟨f' - 1, by omega⟩
            have ez : cmdM p' z b' (g + 1) (A + i) o = cmdM p' z b' g (A + (p i).next) o := by
              rw [cmdM, if_pos (by omega), h.bt hiM, h40, if_neg (by decide), h41, if_neg (by decide), hp i hiM hpe hle, if_pos rfl]
            rw [ez]
            exact cmd_agr h hp hg f (p i).next g o (by omega) he hn
          · rw [cmdM, if_pos hi, h40, if_neg (by decide), h41, if_neg (by decide), if_neg hpe] at he
            exact absurd he hpe
        · by_cases ho : o = 1
          · have e : cmdM p s b (f + 1) i o = ⟨i + 1, 0, 0⟩ := by rw [cmdM, if_pos hi, h40, if_neg (by decide), h41, if_pos rfl, if_pos ho]
            rw [e] at hn ⊢
            have hiM : i < M := hn
            obtain ⟨g, rfl⟩ : ∃ g, f' = g + 1 := ⟨f' - 1, by omega⟩
            rw [cmdM, if_pos (by omega), h.bt hiM, h40, if_neg (by decide), h41, if_pos rfl, if_pos ho]
            rfl
          · have e : cmdM p s b (f + 1) i o = cmdM p s b f (i + 1) (o - 1) := by rw [cmdM, if_pos hi, h40, if_neg (by decide), h41, if_pos rfl, if_neg ho]
            rw [e] at he hn ⊢
            have hgt := (cmd_good (b0 := i) hg f (i + 1) (o - 1) (by omega) he).1
            have hiM : i < M := by omega
            obtain ⟨g, rfl⟩ : ∃ g, f' = g + 1 := ⟨f' - 1, by omega⟩
            have ez : cmdM p' z b' (g + 1) (A + i) o = cmdM p' z b' g (A + (i + 1)) (o - 1) := by
              rw [cmdM, if_pos (by omega), h.bt hiM, h40, if_neg (by decide), h41, if_pos rfl, if_neg ho]; rfl
            rw [ez]
            exact cmd_agr h hp hg f (i + 1) g (o - 1) (by omega) he hn
      · have e : cmdM p s b (f + 1) i o = cmdM p s b f (i + 1) (o + 1) := by rw [cmdM, if_pos hi, h40, if_pos rfl]
        rw [e] at he hn ⊢
        have hgt := (cmd_good (b0 := i) hg f (i + 1) (o + 1) (by omega) he).1
        have hiM : i < M := by omega
        obtain ⟨g, rfl⟩ : ∃ g, f' = g + 1 := ⟨f' - 1, by omega⟩
        have ez : cmdM p' z b' (g + 1) (A + i) o = cmdM p' z b' g (A + (i + 1)) (o + 1) := by
          rw [cmdM, if_pos (by omega), h.bt hiM, h40, if_pos rfl]; rfl
        rw [ez]
        exact cmd_agr h hp hg f (i + 1) g (o + 1) (by omega) he hn
    · rw [cmdM, if_neg hi] at he
      simp at he
theorem sq_agr (h : Agr s z A M) (i : Nat) : Ok A M (sqM s i) (sqM z (A + i)) := fun he hn => by
  by_cases h0 : 0 ≤ qIdx s i
  · obtain ⟨k, hk⟩ : ∃ k : Nat, qIdx s i = k := ⟨(qIdx s i).toNat, by omega⟩
    have e : sqM s i = ⟨i + 1 + k + 1, 0, 0⟩ := by unfold sqM; rw [if_pos h0, hk]; rfl
    rw [e] at hn ⊢
    have hn' : i + 1 + k + 1 ≤ M := hn
    have hz : qIdx z (A + i) = k := h.idx (i := i + 1) (k := k) (by omega) hk
    unfold sqM
    rw [hz, if_pos (by omega)]
    simp only [R3.mk.injEq, and_true, Int.toNat_natCast]
    omega
  · unfold sqM at he
    rw [if_neg h0] at he
    simp at he
theorem whole_agr (h : Agr s z A M) : ∀ (k i : Nat) (q : Bool), i + 1 < M → Ok A M (wholeM s k i q) (wholeM z k (A + i) q)
  | 0, i, q, hi => fun he hn => by
    unfold wholeM at he hn ⊢
    rw [h.bt (by omega)]
    cases h39 : (bt s i == 39)
    · rw [h39, if_neg (by decide)] at he
      simp at he
    · simp only [h39, if_true] at he hn ⊢
      exact sq_agr h i he hn
  | k + 1, i, q, hi => fun he hn => by
    have ih := whole_agr h k
    have e1 := h.hs
    have e2 := h.hz
    have hp : ∀ (q : Bool) (j : Nat), j < M → Ok A M (passM (wholeM s k) s j q) (passM (wholeM z k) z (A + j) q) := fun q j hj => pass_agr h hj q (fun hl => ih j q hl)
    have hg : ∀ (q : Bool) (j : Nat), j < s.size → Good s j (passM (wholeM s k) s j q) := fun q j hj => pass_good hj (fun _ => whole_good s k j q hj)
    unfold wholeM at he hn ⊢
    rw [h.bt (by omega), show A + i + 1 = A + (i + 1) from rfl, h.bt hi]
    cases h39 : (bt s i == 39)
    · simp only [h39, Bool.false_eq_true, if_false] at he hn ⊢
      cases h34 : (bt s i == 34)
      · simp only [h34, Bool.false_eq_true, if_false] at he hn ⊢
        cases h40 : (bt s (i + 1) == 40)
        · simp only [h40, Bool.false_eq_true, if_false] at he hn ⊢
          exact loop_agr h (hp q) (hg q) s.size (i + 2) z.size (by omega) he hn
        · simp only [h40, if_true] at he hn ⊢
          exact cmd_agr h (hp false) (hg false) s.size (i + 1) z.size 0 (by omega) he hn
      · simp only [h34, if_true] at he hn ⊢
        exact loop_agr h (hp true) (hg true) s.size (i + 1) z.size (by omega) he hn
    · simp only [h39, if_true] at he hn ⊢
      exact sq_agr h i he hn
theorem wEnd_agr (h : Agr s z A M) : ∀ (f e f' : Nat), s.size ≤ e + f → e ≤ s.size → M ≤ e + f' → (wEnd s f e).err = 0 → (wEnd s f e).next < M → wEnd z f' (A + e) = ⟨A + (wEnd s f e).next, 0, 0⟩
  | 0, e, f', hf, he, _, _, hn => by
    have e1 := h.hs
    exfalso
    have : e < M := hn
    omega
  | f + 1, e, f', hf, he, hf', h0, hn => by
    have e1 := h.hs
    have e2 := h.hz
    have hle := wEnd_le (f + 1) e he h0
    have heM : e < M := by omega
    obtain ⟨g, rfl⟩ : ∃ g, f' = g + 1 := ⟨f' - 1, by omega⟩
    cases hc : endsM (bt s e)
    · by_cases hp : (passM (wholeM s 24) s e false).err = 0
      · have hg := pass_good (q := false) (show e < s.size by omega) (fun _ => whole_good s 24 e false (by omega)) hp
        rw [wEnd_on (by omega) hc rfl hp] at h0 hn ⊢
        have hle2 := wEnd_le f _ hg.2 h0
        have hz := pass_agr h heM false (fun hl => whole_agr h 24 e false hl) hp (by omega)
        rw [wEnd_on (by omega) (by rw [h.bt heM]; exact hc) hz rfl]
        exact wEnd_agr h f _ g (by omega) hg.2 (by omega) h0 hn
      · rw [wEnd_bad (by omega) hc rfl hp] at h0
        exact absurd h0 hp
    · rw [wEnd_done (by omega) hc, wEnd_done (by omega) (by rw [h.bt heM]; exact hc)]
end
end Go.Proofs.YtkakphiofahlgaaDoor
