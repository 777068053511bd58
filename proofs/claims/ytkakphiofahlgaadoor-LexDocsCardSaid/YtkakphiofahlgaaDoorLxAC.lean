/- With other bytes ahead and behind, a whole line is read the same, further on. No condition. -/
import Derived.Test.YtkakphiofahlgaaDoorLxAB
namespace Go.Proofs.YtkakphiofahlgaaDoor
open Go.RowKit Go.PlainAid

section
variable {s z : ByteArray} {A N : Nat}
theorem no_nl {i : Nat} (h0 : ¬ 0 ≤ lnM s i) {j : Nat} (hij : i ≤ j) (hj : j < s.size) : bt s j ≠ 10 := by
  have hn := idx_neg h0
  obtain ⟨c, c1, c2⟩ := bt_at hj
  have := Lib.indexByte_none hn (j - i)
  rw [rest_get (by omega), show i + (j - i) = j by omega, c1] at this
  intro e
  apply this
  rw [c2] at e
  rw [UInt8.toNat_inj.1 (show c.toNat = (10 : UInt8).toNat by show c.toNat = 10; omega)]
theorem doc_agr {e : ByteArray} {tabs : Bool} (h : Agr s z A N) : ∀ (f i f' : Nat) (acc l : List UInt8) (j : Nat), docM s e tabs f i acc = (some l, j) → j ≤ N → N ≤ i + f' → docM z e tabs f' (A + i) acc = (some l, A + j)
  | 0, i, f', acc, l, j, hd, _, _ => by simp [docM] at hd
  | f + 1, i, f', acc, l, j, hd, hj, hf => by
    have e1 := h.hs
    have e2 := h.hz
    by_cases hi : i < s.size
    · have hnx := next_gt hi
      have hjn : nextN s i ≤ j := by
        cases hE : ((dLine s i tabs).toList == e.toList)
        · rw [doc_on hi hE] at hd
          have := (doc_le (s := s) (e := e) (tabs := tabs) f (nextN s i) (acc ++ (dLine s i tabs).data.toList ++ [10]) hnx.2.1).1
          rw [hd] at this
          exact this
        · rw [doc_done hi hE] at hd
          have := congrArg Prod.snd hd
          exact Nat.le_of_eq this
      have hw : 0 ≤ lnM s i := by
        by_cases h0 : 0 ≤ lnM s i
        · exact h0
        · exfalso
          have hns : nextN s i = s.size := by
            have hwf : isWhole s i = false := decide_eq_false h0
            unfold nextN remN
            rw [hwf, if_neg (by decide), if_neg h0]
          exact no_nl h0 (show i ≤ N - 1 by omega) (by omega) h.nl
      obtain ⟨k, hk⟩ : ∃ k : Nat, lnM s i = k := ⟨(lnM s i).toNat, by omega⟩
      have hr : remN s i = i + k := by unfold remN; rw [if_pos hw, hk]; rfl
      have hws : isWhole s i = true := decide_eq_true hw
      have hns : nextN s i = i + k + 1 := by unfold nextN; rw [hws, if_pos rfl, hr]
      have hkN : i + k < N := by omega
      have hkz : lnM z (A + i) = k := h.idx (i := i) (k := k) hkN hk
      have hrz : remN z (A + i) = A + i + k := by unfold remN; rw [hkz, if_pos (by omega)]; rfl
      have hwz : isWhole z (A + i) = true := by unfold isWhole; rw [hkz]; exact decide_eq_true (by omega)
      have hnz : nextN z (A + i) = A + nextN s i := by unfold nextN; rw [hwz, if_pos rfl, hrz, hws, if_pos rfl, hr]; omega
      have hlz : lineB z (A + i) = lineB s i := by
        unfold lineB
        rw [hrz, hr, Nat.add_assoc]
        exact h.ext (by omega)
      have hdz : dLine z (A + i) tabs = dLine s i tabs := by unfold dLine; rw [hlz]
      obtain ⟨g, rfl⟩ : ∃ g, f' = g + 1 := ⟨f' - 1, by omega⟩
      cases hE : ((dLine s i tabs).toList == e.toList)
      · rw [doc_on hi hE] at hd
        rw [doc_on (by omega) (by rw [hdz]; exact hE), hdz, hnz]
        exact doc_agr h f (nextN s i) g _ l j hd hj (by omega)
      · rw [doc_done hi hE] at hd
        rw [doc_done (by omega) (by rw [hdz]; exact hE), hnz]
        have h1 := congrArg Prod.fst hd
        have h2 := congrArg Prod.snd hd
        simp only at h1 h2
        rw [h1, h2]
    · rw [doc_end hi] at hd
      simp at hd
theorem docs_agr (h : Agr s z A N) : ∀ (ds : List (Nat × Bool)) (ts : List Tk) (i : Nat) (r : List Tk) (j : Nat), i ≤ s.size → docsM s ds ts i = (0, 0, r, j) → j ≤ N → docsM z ds (ts.map (shT A)) (A + i) = (0, 0, r.map (shT A), A + j)
  | [], ts, i, r, j, hi, hd, hj => by
    have h1 : ts = r := congrArg (fun x => x.2.2.1) hd
    have h2 : i = j := congrArg (fun x => x.2.2.2) hd
    subst h1 h2
    rfl
  | d :: ds, ts, i, r, j, hi, hd, hj => by
    cases ht : ts[d.1]? with
    | none =>
      have hz : (ts.map (shT A))[d.1]? = none := by rw [List.getElem?_map, ht]; rfl
      unfold docsM at hd ⊢
      rw [ht] at hd
      rw [hz]
      have h1 : ts = r := congrArg (fun x => x.2.2.1) hd
      have h2 : i = j := congrArg (fun x => x.2.2.2) hd
      subst h1 h2
      rfl
    | some t =>
      have hz : (ts.map (shT A))[d.1]? = some (shT A t) := by rw [List.getElem?_map, ht]; rfl
      have hle := doc_le (s := s) (e := ⟨(unqM t.text).1.toArray⟩) (tabs := d.2) s.size i [] hi
      rcases hdoc : docM s ⟨(unqM t.text).1.toArray⟩ d.2 s.size i [] with ⟨_ | l, j1⟩
      · rw [docs_bad ht hdoc] at hd
        have := congrArg (fun x => x.2.1) hd
        simp at this
      · rw [hdoc] at hle
        rw [docs_on ht hdoc] at hd
        have hco := docs_co (s := s) ds (ts.set d.1 (t.told ⟨l.toArray⟩ (unqM t.text).2)) j1 hle.2
        rw [hd] at hco
        have hj1 : j1 ≤ N := Nat.le_trans hco.2.1 hj
        have e2 := h.hz
        have hdz := doc_agr h s.size i z.size [] l j1 hdoc hj1 (by omega)
        have hon := docs_on (s := z) (ds := ds) (i := A + i) hz hdz
        rw [hon]
        have hset : (ts.map (shT A)).set d.1 ((shT A t).told ⟨l.toArray⟩ (unqM (shT A t).text).2) = (ts.set d.1 (t.told ⟨l.toArray⟩ (unqM t.text).2)).map (shT A) := by
          rw [List.map_set]; rfl
        rw [hset]
        exact docs_agr h ds _ j1 r j hle.2 hd hj
theorem last_co (ts : List Tk) : (ts.getLast?.map Tk.kind) = (ts.map Tk.co).getLast?.map (·.1) := by
  rw [List.getLast?_map, Option.map_map]
  rfl
/-- The law's plain part. -/
theorem top_ahead {a b : ByteArray} {t : Tk} (he : (topM s 0).err = 0) (hl : (topM s 0).toks.getLast? = some t) (ht : t.kind = 3) (hnl : bt s ((topM s 0).next - 1) = 10) (hsz : s.size + a.size + b.size ≤ 65536) :
    topM (a ++ s.extract 0 (topM s 0).next ++ b) a.size = ⟨(topM s 0).toks.map (shT a.size), a.size + (topM s 0).next, 0, 0⟩ := by
  have hs : ¬ 65536 < s.size := by omega
  have htop : topM s 0 = atM s 0 := by unfold topM; rw [if_neg hs, if_neg (by omega)]; rfl
  have hco0 : 0 + (topM s 0).toks.length ≤ (topM s 0).next ∧ (topM s 0).next ≤ s.size ∧ s.size ≤ 65536 := top_count (s := s) (i := 0) (Nat.zero_le _) he
  rw [htop] at he hl hnl hco0 ⊢
  have hnlst : ¬ NL ⟨0, [], []⟩ := by rintro ⟨u, hu, _⟩; simp at hu
  have hz0 := line_zero s.size ⟨0, [], []⟩ (Nat.zero_le s.size)
  have hlast := nl_last s.size ⟨0, [], []⟩ (Nat.zero_le s.size) hnlst
  have hmono := line_mono (s := s) (f := s.size) (st := ⟨0, [], []⟩) (Nat.zero_le s.size)
  have hag := fun (z : ByteArray) (A M : Nat) (h : Agr s z A M) => line_agr h s.size ⟨0, [], []⟩
  rcases hln : lineM s s.size ⟨0, [], []⟩ with ⟨pl, er, st⟩
  rw [hln] at hz0 hlast hmono hag
  by_cases h0 : er = 0
  · subst h0
    obtain rfl : pl = 0 := hz0 rfl
    have hdz := docs_zero (s := s) st.dels st.toks st.place
    have hco := docs_co (s := s) st.dels st.toks st.place (hmono rfl).2
    rcases hd : docsM s st.dels st.toks st.place with ⟨pl, er, ts, j⟩
    rw [hd] at hdz hco
    by_cases h1 : er = 0
    · subst h1
      obtain rfl : pl = 0 := hdz rfl
      have hat := at_ok hln hd
      rw [hat] at hl hnl hco0 ⊢
      obtain ⟨c1, c2, c3⟩ := hco
      simp only at hl hnl hco0 c1 c2 c3 ⊢
      have hNL : NL st := by
        have hk := last_co ts
        rw [c1, ← last_co, hl] at hk
        cases hg : st.toks.getLast? with
        | none => rw [hg] at hk; simp at hk
        | some u =>
          rw [hg] at hk
          have : t.kind = u.kind := by simpa using hk
          exact ⟨u, hg, by rw [← this]; exact ht⟩
      obtain ⟨g1, g2⟩ : 0 < st.place ∧ bt s (st.place - 1) = 10 := hlast rfl hNL
      obtain ⟨z, hz⟩ : ∃ z, a ++ s.extract 0 j ++ b = z := ⟨_, rfl⟩
      rw [hz]
      have hzs : z.size = a.size + j + b.size := by rw [← hz, ByteArray.size_append, ByteArray.size_append, ByteArray.size_extract]; omega
      have hbyte : ∀ i, i < j → z.data.toList[a.size + i]? = s.data.toList[i]? := fun i hi => by
        rw [← hz, ByteArray.data_append, ByteArray.data_append, Array.toList_append, Array.toList_append, Lib.extract_data, List.drop_zero, Nat.sub_zero]
        have ha : a.data.toList.length = a.size := (Lib.size_eq a).symm
        have hsl : s.data.toList.length = s.size := (Lib.size_eq s).symm
        rw [List.getElem?_append_left (by rw [List.length_append, List.length_take, ha, hsl]; omega), List.getElem?_append_right (by omega), ha, Nat.add_sub_cancel_left, List.getElem?_take, if_pos hi]
      have hAj : Agr s z a.size j := ⟨hbyte, c3, by omega, Nat.lt_of_lt_of_le g1 c2, hnl⟩
      have hAM : Agr s z a.size st.place := ⟨fun i hi => hbyte i (by omega), (hmono rfl).2, by omega, g1, g2⟩
      obtain ⟨r, hr1, hr2⟩ := hag z a.size st.place hAM z.size ⟨a.size, [], []⟩ ⟨rfl, rfl, rfl⟩ (Nat.zero_le _) hnlst rfl hNL rfl (by show st.place ≤ 0 + z.size; omega)
      have hdd := docs_agr hAj st.dels st.toks st.place ts j (hmono rfl).2 hd (Nat.le_refl _)
      have htz : topM z (a.size : Nat) = atM z a.size := by unfold topM; rw [if_neg (by omega), if_neg (by omega)]; rfl
      rw [htz, at_ok hr1 (by rw [hr2.dels, hr2.toks, hr2.place]; exact hdd)]
    · rw [at_doc hln hd h1] at he
      exact absurd he h1
  · rw [at_bad hln h0] at he
    exact absurd he h0
end
end Go.Proofs.YtkakphiofahlgaaDoor
