/- joined. Condition: the row lies as stated; the texts' sizes. -/
import Derived.Test.YtohgecmbkjienaaFlAW
namespace Go.Proofs.Ytohgecmbkjienaa
open Go.RowKit Go.Shelf Go.PlainAid
attribute [local go_sem] Oper.semAt_some
def joinM (l : List ByteArray) : ByteArray := l.foldl (fun s x => s ++ (x ++ ⟨#[47]⟩)) ⟨#[]⟩
theorem join_snoc (l : List ByteArray) (x : ByteArray) : joinM (l ++ [x]) = joinM l ++ (x ++ ⟨#[47]⟩) := by simp [joinM]
theorem join_size (l : List ByteArray) (h : ∀ x ∈ l, x.size ≤ 1000) : (joinM l).size ≤ l.length * 1001 := by
  suffices H : ∀ (l : List ByteArray) (s : ByteArray), (∀ x ∈ l, x.size ≤ 1000) → (l.foldl (fun s x => s ++ (x ++ ⟨#[47]⟩)) s).size ≤ s.size + l.length * 1001 by
    have h9 := H l ⟨#[]⟩ h
    have : (⟨#[]⟩ : ByteArray).size = 0 := rfl
    unfold joinM
    omega
  intro l
  induction l with
  | nil => intro s _; simp
  | cons x l ih =>
    intro s hx
    have h1 := ih (s ++ (x ++ ⟨#[47]⟩)) (fun y hy => hx y (List.mem_cons_of_mem _ hy))
    have h2 := hx x (List.mem_cons_self ..)
    have h3 : (s ++ (x ++ (⟨#[47]⟩ : ByteArray))).size = s.size + (x.size + 1) := by rw [ByteArray.size_append, ByteArray.size_append]; rfl
    rw [List.foldl_cons, List.length_cons]
    omega
set_option maxHeartbeats 1000000 in
theorem joined_any {w : World} {base : Nat} {v : Value} {l : List ByteArray} (hR : w.ownsRow base 9 1 v l.length (strs l)) (hl : l.length ≤ 100000) (hs : ∀ x ∈ l, x.size ≤ 1000) : Calls Try.prog 37 #[v] w fun e w' => e = .returned (.string (joinM l)) ∧ w' = w := by
  obtain ⟨a, c, rfl⟩ := ownsRow_slice hR
  obtain ⟨n, hn⟩ : ∃ n, l.length = n := ⟨_, rfl⟩
  have hat := Lib.hid (fun (i : Nat) (x : ByteArray) (hx : l[i]? = some x) => show ∃ g, a = some ⟨g, 0, none⟩ ∧ w.cell? ⟨g, i, none⟩ = some (.string x) by
    obtain ⟨g, cap, e, h1, _⟩ := hR.form (by have := (List.getElem?_eq_some_iff.1 hx).1; omega)
    obtain ⟨rfl, rfl⟩ : a = some ⟨g, 0, none⟩ ∧ c = cap := by simpa using e
    refine ⟨g, rfl, ?_⟩
    have hi := (List.getElem?_eq_some_iff.1 hx).1
    rw [hR.cellAt _ (by omega)]
    simp [strs, hx])
  have hnH := Lib.hid hn
  have hsH := Lib.hid hs
  rw [hn] at hl ⊢
  clear hR hn hs
  go_enter Try.func37, Try.ntmps37
  go_wp2
  go_loopw [3, 8] (fun s3 s8 wr => ∃ i : Nat, i ≤ n ∧ s8 = .int .i64 i ∧ w = wr ∧ s3 = .string (joinM (l.take i))) (fun _ s8 _ => n - (intOf s8).toNat)
  case atStart => exact ⟨0, Nat.zero_le _, by go_num, rfl, rfl⟩
  case round =>
    obtain ⟨i, hi, rfl, rfl, rfl⟩ := hrel
    by_cases hlt : i < n
    · obtain ⟨x, hx⟩ : ∃ x, l[i]? = some x := ⟨_, List.getElem?_eq_getElem (by have := hnH.out; omega)⟩
      obtain ⟨g, rfl, c0⟩ := hat.out _ _ hx
      have htk := Lib.hid (show joinM (l.take (i + 1)) = joinM (l.take i) ++ (x ++ ⟨#[47]⟩) by
        obtain ⟨h1, h2⟩ := List.getElem?_eq_some_iff.1 hx
        rw [List.take_succ_eq_append_getElem h1, h2]
        simp [joinM])
      have hx1 : x.size ≤ 1000 := hsH.out x (List.mem_of_getElem? hx)
      have hx2 : (x ++ (⟨#[47]⟩ : ByteArray)).size = x.size + 1 := by rw [ByteArray.size_append]; rfl
      have hx3 : (joinM (l.take i)).size ≤ i * 1001 := by
        refine Nat.le_trans (join_size _ (fun x hx => hsH.out x (List.mem_of_mem_take hx))) ?_
        rw [List.length_take]
        exact Nat.mul_le_mul_right _ (by omega)
      clear hx
      go_wp2
      go_roundw
      case rel => exact ⟨i + 1, by omega, by go_num, trivial, by rw [htk.out]⟩
      case measure => simp [intOf]; omega
    · obtain rfl : i = n := by omega
      have htk := Lib.hid (show l.take i = l by rw [← hnH.out, List.take_length])
      go_wp2
      go_ret
      exact ⟨by rw [htk.out]; rfl, rfl⟩
end Go.Proofs.Ytohgecmbkjienaa
