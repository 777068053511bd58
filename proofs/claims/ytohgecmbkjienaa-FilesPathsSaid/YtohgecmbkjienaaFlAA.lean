/- Truncate, Write. Condition: the tree lies as stated; the text's size. -/
import Derived.Test.YtohgecmbkjienaaFlZ
import Derived.Lib.BufferWrite
namespace Go.Proofs.Ytohgecmbkjienaa
open Go.RowKit Go.Shelf Go.PlainAid
attribute [local go_sem] Oper.semAt_some

def modN (f : Fs) (n : Int) (g : Ino → Ino) : Fs := match node f n with
  | none => f
  | some I => f.set (n - 1).toNat (some (g I))
theorem modN_at {f : Fs} {i : Nat} {I : Ino} (h : f[i]? = some (some I)) (g : Ino → Ino) : modN f ((i : Int) + 1) g = f.set i (some (g I)) := by
  unfold modN
  rw [node_at h, show ((i : Int) + 1 - 1).toNat = i by omega]
def TruncM (f : Fs) (n k : Int) : Nat × Fs := match node f n with
  | none => (9, f)
  | some I => if I.isDir then (21, f) else if k < 0 then (22, f) else if 65536 < k ∨ roomM f I k.toNat = false then (28, f) else (0, modN f n (fun I => { I with data := resM I.data k.toNat }))
def putL (l : List UInt8) (a : Nat) (s : List UInt8) : List UInt8 := l.take a ++ s ++ l.drop (a + s.length)
/-- The size that a file comes to have. -/
def sizM (I : Ino) (a : Nat) (s : ByteArray) : Nat := if s.size = 0 then I.data.length else max I.data.length (min a 65536 + s.size)
def WriteM (f : Fs) (n a : Int) (s : ByteArray) : Nat × Nat × Fs := match node f n with
  | none => (0, 9, f)
  | some I => if I.isDir then (0, 21, f) else if a < 0 then (0, 22, f) else if 65536 < a ∨ roomM f I (sizM I a.toNat s) = false then (0, 28, f)
    else if s.size = 0 then (0, 0, f) else (s.size, 0, modN f n (fun I => { I with data := putL (resM I.data (sizM I a.toNat s)) a.toNat s.data.toList }))
theorem bytes_ge : ∀ (f : Fs) (i : Nat) (I : Ino), f[i]? = some (some I) → I.data.length ≤ bytesM f
  | [], i, I, h => by simp at h
  | x :: f, 0, I, h => by
    obtain rfl : x = some I := by simpa using h
    simp only [bytesM]; omega
  | x :: f, i + 1, I, h => by
    have := bytes_ge f i I (by simpa using h)
    cases x <;> simp only [bytesM] <;> omega
theorem InoP.trans {S : Nat → Prop} {w w1 w2 : World} {q : Nat} {I I' : Ino} (h : InoP S w w1 q I) (k : ∀ S', InoIs w1 S' q I → InoP S' w1 w2 q I') : InoP S w w2 q I' := by
  obtain ⟨S', h1, h2, h3⟩ := h
  obtain ⟨S2, k1, k2, k3⟩ := k S' h1
  exact ⟨S2, k1, fun g hg => (k2 g hg).elim (h2 g) (fun h => .inr (Nat.le_trans h3.size h)), h3.trans h2 k3⟩
theorem InoP.below {S : Nat → Prop} {w w0 w1 : World} {q : Nat} {I : Ino} (hb : Below w.heap.size w w0) (h : InoP S w0 w1 q I) : InoP S w w1 q I := by
  obtain ⟨S', h1, h2, h3⟩ := h
  exact ⟨S', h1, fun g hg => (h2 g hg).imp id (fun h => Nat.le_trans hb.size h), (Frm.of_below hb).trans (fun g h => .inl h) h3⟩
/-- Bytes are laid over what stands. -/
theorem InoAt.over {w : World} {S : Nat → Prop} {q : Nat} {I : Ino} {g c : Nat} {ev : Value} {cur : Array Value} (h : InoAt w S q I (.slice (some ⟨g, 0, none⟩) I.data.length c) ev) (hg : w.heap[g]? = some (.cells cur 5 (0, 0))) (hcs : cur.size = c) (hcap : I.data.length ≤ c) (hcm : c ≤ maxLen) (htk : cur.toList.take I.data.length = Lib.byteCells I.data) (s : List UInt8) {a : Nat} (ha : a + s.length ≤ I.data.length) :
    InoP S w (w.setRow g (cur.toList.take a ++ Lib.byteCells s ++ cur.toList.drop (a + s.length)).toArray) q { I with data := putL I.data a s } := by
  have hgS : S g := h.sd g rfl
  obtain ⟨R, hR⟩ : ∃ R, (cur.toList.take a ++ Lib.byteCells s ++ cur.toList.drop (a + s.length)).toArray = R := ⟨_, rfl⟩
  have hlen : (putL I.data a s).length = I.data.length := by unfold putL; simp; omega
  have hqg : q ≠ g := fun e => row_off h.blk ends_ne.2.1 h.dat (by rw [e]; rfl)
  have hB : Blk w g 5 cur := hg
  rw [hR]
  refine ⟨S, ⟨.slice (some ⟨g, 0, none⟩) I.data.length c, ev, h.blk.rowFar hqg R, ?_, ?_, h.sq, h.sd, h.se, fun k hk => by have := h.lt k hk; simpa [World.setRow] using this⟩, fun _ hk => .inl hk, ⟨rfl, rfl, rfl, by simp [World.setRow], fun k _ hk2 => setRow_other w g k R (fun e => hk2 (e ▸ hgS))⟩⟩
  · show (w.setRow g R).ownsRow 0 5 1 (.slice (some ⟨g, 0, none⟩) I.data.length c) (putL I.data a s).length (Lib.byteCells (putL I.data a s))
    rw [hlen]
    refine ⟨by rw [Lib.byteCells_length, hlen]; omega, .inr ⟨g, c, R, rfl, Nat.zero_le _, setRow_heap w g cur R _ _ hg, hcap, hcm, ?_, ?_⟩⟩
    · rw [← hR]; simp [Lib.byteCells_length]; omega
    · rw [← hR]
      show (cur.toList.take a ++ Lib.byteCells s ++ cur.toList.drop (a + s.length)).take (I.data.length * 1) = _
      have e1 : cur.toList.take a = Lib.byteCells (I.data.take a) := by
        rw [← bytes_take, ← htk, List.take_take]
        congr 1
        omega
      have e2 : (cur.toList.drop (a + s.length)).take (I.data.length - (a + s.length)) = Lib.byteCells (I.data.drop (a + s.length)) := by
        have h9 : Lib.byteCells (I.data.drop (a + s.length)) = (Lib.byteCells I.data).drop (a + s.length) := List.map_drop
        rw [h9, ← htk, List.drop_take]
      have l1 : (cur.toList.take a ++ Lib.byteCells s).length = a + s.length := by rw [List.length_append, List.length_take, Array.length_toList, Lib.byteCells_length, hcs]; omega
      rw [Nat.mul_one, List.take_append, List.take_of_length_le (by rw [l1]; omega), l1, e2, e1]
      unfold putL
      rw [bytes_app, bytes_app]
  · exact row_keep h.ent (fun k hk => setRow_other w g k R (fun e => rows_off ends_ne.2.2.1 h.dat h.ent (g := g) rfl (by rw [hk, e])))
end Go.Proofs.Ytohgecmbkjienaa
