/- How an array of bytes that came in is opened. No program is named here. -/
import Derived.Test.YtejbhjcopldekaaFrame
import Derived.Test.YtejbhjcopldekaaMath2
import Derived.ChangeSame
namespace Go.Proofs.Ytejbhjcopldekaa
set_option maxRecDepth 100000
open Go.ChangeShapes Go.WideShapes

section
variable {H : Type} {enc : TypeId × Value → H} {P : Program} {k e : TypeId} {n : Nat} {q : IntKind} {W : World} {base : Nat} {sp : Nat → Bool} {held : Bool}
theorem arr_elems (he : P.underlying e = some (.int q)) {m : Nat} {cs : List Value} {c : Nat} : ∀ (L : List Nat) (xs : List (DataW H × List MemPlace)),
    L.mapM (fun i => DataW.trod enc P W base sp held m e ((cs.drop (i * c)).take c)) = some xs → ∀ i ∈ L, ∃ z, (cs.drop (i * c)).take c = [.int q z] ∧ (Lit.int q z).wf = true
  | [], _, _ => by simp
  | j :: L, xs, h => by
    rw [List.mapM_cons] at h
    simp only [bind, Option.bind_eq_some_iff, pure, Option.some.injEq] at h
    obtain ⟨y, hy, ys, hys, rfl⟩ := h
    intro i hi
    rcases List.mem_cons.1 hi with rfl | hi
    · obtain ⟨a, ea, _, wa⟩ := DataW.trod_int he hy
      exact ⟨a, ea, wa⟩
    · exact arr_elems he L ys hys i hi
theorem open_barr (hu : P.underlying k = some (.array n e)) (he : P.underlying e = some (.int .u8)) (hone : P.cellsOf e = 1) (hsize : P.cellsOf k = n) {r : Reach} {b0 : Nat} {v : Value} (hval : Value.okWide P W r b0 k v)
    {d : DataW H} {ps : List MemPlace} (hd : DataW.Trod enc P W base sp held k v d ps) : ∃ l : List UInt8, l.length = n ∧ v = .agg (l.map bv).toArray := by
  obtain ⟨xs, rfl, hn⟩ : ∃ xs : Array Value, v = .agg xs ∧ xs.size = n := by
    simp only [Value.okWide, hu] at hval
    obtain ⟨cs, h1, h2, _⟩ := hval
    exact ⟨cs, h1, by rw [h2, hsize]⟩
  obtain ⟨fuel, hf⟩ := hd
  cases fuel with
  | zero => simp [DataW.trod] at hf
  | succ m =>
    rw [DataW.trod_step] at hf
    unfold DataW.trodStep at hf
    simp only [hu, Value.cells] at hf
    rw [if_pos (by rw [hsize]; simpa using hn)] at hf
    simp only [Option.map_eq_some_iff] at hf
    obtain ⟨ys, hy, _⟩ := hf
    have hel := arr_elems he _ ys hy
    rw [hone] at hel
    have hc : ∀ i (hi : i < n), ∃ c : UInt8, xs[i]'(by omega) = bv c := by
      intro i hi
      obtain ⟨z, hz, hw⟩ := hel i (by simpa using hi)
      have hb : 0 ≤ z ∧ z ≤ 255 := by simpa [Lit.wf, IntKind.min, IntKind.max, IntKind.signed, IntKind.bits] using hw
      refine ⟨UInt8.ofNat z.toNat, ?_⟩
      have hg : xs.toList[i]'(by simp; omega) = .int .u8 z := by
        have := congrArg (·[0]?) hz
        simp at this
        have h2 : i < xs.size := by omega
        simpa [List.getElem?_take, h2] using this
      rw [Array.getElem_toList] at hg
      rw [hg, bv]
      congr 1
      simp
      omega
    refine ⟨(List.range n).map fun i => if h : i < n then (hc i h).choose else 0, by simp, ?_⟩
    congr 1
    apply Array.ext
    · simp [hn]
    · intro i h1 h2
      have hi : i < n := by omega
      simp [hi]
      exact (hc i hi).choose_spec
end
end Go.Proofs.Ytejbhjcopldekaa
