/- The law MoneyParse, walked: it returns true at every input. Condition: the text is no longer than a text can be. -/
import Derived.Test.YtbaghdiimkenkaaDoorMoneyScaleWalk
import Derived.Deep.RegionHeld3
import Derived.StillTailTactics
import Derived.Laws.IdiomStrings
namespace Go.Proofs.YtbaghdiimkenkaaDoor
open Go.RowKit

/-- Block b holds the bytes l, and they may be written. -/
def Row (w : World) (b : Nat) (l : List UInt8) : Prop :=
  (∀ j (hj : j < l.length), w.cell? ⟨b, j, none⟩ = some (.int .u8 (l[j].toNat : Int)) ∧ w.frozen? ⟨b, j, none⟩ = false) ∧ b < w.heap.size
theorem Row.keep {w w1 : World} {b : Nat} {l : List UInt8} (h : Row w b l) (hb : Below w.heap.size w w1) : Row w1 b l := by
  obtain ⟨hc, hf⟩ := bcell hb
  exact ⟨fun j hj => ⟨(hc b j h.2).trans (h.1 j hj).1, (hf b j h.2).trans (h.1 j hj).2⟩, Nat.lt_of_lt_of_le h.2 hb.size⟩
theorem Row.drew {w : World} {b : Nat} {l : List UInt8} (h : Row w b l) : Row w.drew b l := h
theorem Row.set {w : World} {b : Nat} {l : List UInt8} (h : Row w b l) (i : Nat) (v : Nat) (hv : v < 256) :
    Row (w.setCell ⟨b, i, none⟩ (.int .u8 (v : Int))) b (l.set i (UInt8.ofNat v)) := by
  refine ⟨fun j hj => ?_, by simpa [World.setCell] using h.2⟩
  have hj' : j < l.length := by simpa using hj
  obtain ⟨c1, f1⟩ := h.1 j hj'
  refine ⟨?_, (World.frozen?_setCell _ _ _ _).trans f1⟩
  by_cases e : i = j
  · subst e
    have e2 : (UInt8.ofNat v).toNat = v := by rw [UInt8.toNat_ofNat']; omega
    simp [go_sem, c1, e2]
  · rw [List.getElem_set_ne e]
    have hne : (⟨b, j, none⟩ : Addr) ≠ ⟨b, i, none⟩ := fun h => e (by injection h with _ h2; exact h2.symm)
    exact (World.cell?_setCell_other w _ _ _ hne.symm).trans c1
/-- The bytes of a text, made anew: where they lie, and what is there. -/
theorem bytes_made (l : List UInt8) (w : World) : ∃ (C : Nat) (W : World), (convert 9 41 (.string ⟨l.toArray⟩)).run Tryd.prog w = .ok (.slice (some ⟨w.heap.size, 0, none⟩) l.length C) W ∧ Row W w.heap.size l ∧ Below w.heap.size w W := by
  have h := run_bytes_of_string (P := Tryd.prog) w 9 41 5 ⟨l.toArray⟩ Tryd.underlying9 Tryd.underlying41 Tryd.underlying5
  have hsz : (⟨l.toArray⟩ : ByteArray).size = l.length := by show l.toArray.size = _; simp
  rw [hsz] at h
  refine ⟨_, _, h, ⟨fun j hj => ⟨?_, ?_⟩, by show w.heap.size < (w.heap.push _).size; simp⟩, (Below.refl _ _).drew.alloc (Nat.le_refl _) _⟩
  · refine (World.cell?_alloc_mark w.drew _ _ _ j).trans ?_
    have := bytesRow_at ⟨l.toArray⟩ (grownCap w l.length 0 5) j (by simpa using hj)
    simpa using this
  · refine (World.frozen?_alloc_mark w.drew _ _ _ _ j).trans ?_
    have hz : j < (bytesRow ⟨l.toArray⟩ (grownCap w l.length 0 5)).size := by
      have := bytesRow_at ⟨l.toArray⟩ (grownCap w l.length 0 5) j (by simpa using hj)
      exact (Array.getElem?_eq_some_iff.1 this).1
    simp
    omega
theorem Row.text {w : World} {b : Nat} {l : List UInt8} (h : Row w b l) (C : Nat) : (convert 41 9 (.slice (some ⟨b, 0, none⟩) l.length C)).run Tryd.prog w = .ok (.string ⟨l.toArray⟩) w :=
  run_convert_bytes_back w 41 9 5 ⟨b, 0, none⟩ C l Tryd.underlying41 Tryd.underlying5 Tryd.underlying9 (fun j hj => by
    have e : (⟨b, 0, none⟩ : Addr).add j = ⟨b, j, none⟩ := by
      unfold Addr.add
      by_cases hz : j = 0 <;> simp [hz]
    rw [e]
    exact (h.1 j hj).1)

/-- What a region's conversion reads stays, behind a draw and behind a call. -/
theorem rowS_drew {w w1 : World} {b C : Nat} {l : List UInt8} (h : (convert 41 9 (.slice (some ⟨b, 0, none⟩) l.length C)).run Tryd.prog w1 = .ok (.string ⟨l.toArray⟩) w1 ∧ Row w1 b l ∧ Below w.heap.size w w1) :
    (convert 41 9 (.slice (some ⟨b, 0, none⟩) l.length C)).run Tryd.prog w1.drew = .ok (.string ⟨l.toArray⟩) w1.drew ∧ Row w1.drew b l ∧ Below w.heap.size w w1.drew :=
  ⟨(h.2.1.drew).text C, h.2.1.drew, h.2.2.drew⟩
theorem rowS_call {w w1 w2 : World} {b C : Nat} {l : List UInt8} (hb : Below w1.heap.size w1 w2) (h : (convert 41 9 (.slice (some ⟨b, 0, none⟩) l.length C)).run Tryd.prog w1 = .ok (.string ⟨l.toArray⟩) w1 ∧ Row w1 b l ∧ Below w.heap.size w w1) :
    (convert 41 9 (.slice (some ⟨b, 0, none⟩) l.length C)).run Tryd.prog w2 = .ok (.string ⟨l.toArray⟩) w2 ∧ Row w2 b l ∧ Below w.heap.size w w2 :=
  ⟨(h.2.1.keep hb).text C, h.2.1.keep hb, h.2.2.trans (hb.mono h.2.2.size)⟩

/-- The index of a byte, out of any number. -/
theorem ix_of (at_ : Int) (n : Nat) (hn : 1 ≤ n) : ∃ i : Nat, i < n ∧ (at_.tmod (n : Int) + (n : Int)) % (n : Int) = (i : Int) ∧ 0 ≤ at_.tmod (n : Int) + (n : Int) ∧ at_.tmod (n : Int) < (n : Int) := by
  have h1 := Int.tmod_lt_of_pos at_ (show (0 : Int) < n by omega)
  have h2 := Int.lt_tmod_of_pos at_ (show (0 : Int) < n by omega)
  have h3 := Int.emod_nonneg (at_.tmod (n : Int) + (n : Int)) (show (n : Int) ≠ 0 by omega)
  have h4 := Int.emod_lt_of_pos (at_.tmod (n : Int) + (n : Int)) (show (0 : Int) < n by omega)
  exact ⟨((at_.tmod (n : Int) + (n : Int)) % (n : Int)).toNat, by omega, by omega, by omega, h1⟩

end Go.Proofs.YtbaghdiimkenkaaDoor
