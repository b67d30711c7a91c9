/- The document's Right (stage 12). -/
import Derived.Test.YtejbhjcopldekaaRefSa
import Derived.Test.YtejbhjcopldekaaFrameA
namespace Go.Proofs.Ytejbhjcopldekaa
set_option linter.unusedVariables false
set_option maxRecDepth 100000
open Go.RowKit

set_option maxHeartbeats 4000000 in
theorem known_any (n : Int) (w : World) : Calls Try.prog 24 #[.int .i64 n] w fun e w' => e = .returned (.bool (sKnown n)) ∧ w' = w := by
  by_cases h : n = 1 ∨ n = 6 ∨ n = 8 ∨ n = 9 ∨ n = 10 ∨ n = 20 ∨ n = 21 ∨ n = 32
  · have hk : sKnown n = true := decide_eq_true h
    rw [hk]
    clear hk
    rcases h with rfl | rfl | rfl | rfl | rfl | rfl | rfl | rfl
    all_goals
      go_enter Try.func24, Try.ntmps24
      go_wp2
      go_ret
      exact ⟨rfl, rfl⟩
  · have hk : sKnown n = false := decide_eq_false h
    rw [hk]
    clear hk
    have h1 : (n == 1) = false := by rw [beq_eq_false_iff_ne]; omega
    have h2 : (n == 6) = false := by rw [beq_eq_false_iff_ne]; omega
    have h3 : (n == 8) = false := by rw [beq_eq_false_iff_ne]; omega
    have h4 : (n == 9) = false := by rw [beq_eq_false_iff_ne]; omega
    have h5 : (n == 10) = false := by rw [beq_eq_false_iff_ne]; omega
    have h6 : (n == 20) = false := by rw [beq_eq_false_iff_ne]; omega
    have h7 : (n == 21) = false := by rw [beq_eq_false_iff_ne]; omega
    have h8 : (n == 32) = false := by rw [beq_eq_false_iff_ne]; omega
    clear h
    go_enter Try.func24, Try.ntmps24
    go_wp2
    go_ret
    exact ⟨rfl, rfl⟩
/-- Numbers that lie in a row. -/
structure IntsAt (w : World) (a : Option Addr) (n : Nat) (l : List Int) : Prop where
  len : l.length = n
  at_ : ∀ i (hi : i < l.length), ∃ b off, a = some ⟨b, off, none⟩ ∧ b < w.heap.size ∧ w.cell? ⟨b, off + i, none⟩ = some (.int .i64 l[i])
theorem IntsAt.later {w w' : World} {a : Option Addr} {n : Nat} {l : List Int} (h : IntsAt w a n l) (hb : Below w.heap.size w w') : IntsAt w' a n l :=
  ⟨h.len, fun i hi => by
    obtain ⟨b, off, e, hbw, hc⟩ := h.at_ i hi
    exact ⟨b, off, e, Nat.lt_of_lt_of_le hbw hb.size, by rw [hb.cell (p := ⟨b, off + i, none⟩) hbw]; exact hc⟩⟩
/-- The document's message, as it is handed over. -/
def dMsg (m : SM) (ia : Option Addr) (ic : Nat) (ua : Option Addr) (uc : Nat) : Array Value :=
  #[.int .i64 m.cls, .slice ia m.id.length ic, .int .u32 (m.host : Int), .int .i64 m.port, .string (S m.soft), .int .i64 m.code, .string (S m.reason), .slice ua m.unk.length uc]

set_option maxHeartbeats 4000000 in
theorem refRight_any (m : SM) (ia : Option Addr) (ic : Nat) (ua : Option Addr) (uc : Nat) (w : World) (hU : IntsAt w ua m.unk.length m.unk) (hlen : m.unk.length ≤ 1000000) (hs : m.soft.length ≤ 1000000) (hr : m.reason.length ≤ 1000000) :
    Calls Try.prog 13 #[.agg (dMsg m ia ic ua uc)] w fun e w' => e = .returned (.bool (rightS m)) ∧ Below w.heap.size w w' := by
  obtain ⟨F, hF⟩ : ∃ F, rightS m = F := ⟨_, rfl⟩
  rw [hF]
  have HF := shid hF
  clear hF
  obtain ⟨cls, id, host, port, soft, code, reason, unk⟩ := m
  simp only [dMsg] at *
  have hrl : (S reason).toList = reason := ByteArray.toList_mk reason
  have hsS : (S soft).size = soft.length := by unfold S; simp [ByteArray.size]
  have hrS : (S reason).size = reason.length := by unfold S; simp [ByteArray.size]
  have HU := shid hU
  clear hU
  rcases (show cls = 0 ∨ cls = 2 ∨ cls = 3 ∨ (cls ≠ 0 ∧ cls ≠ 2 ∧ cls ≠ 3) by omega) with rfl | rfl | rfl | ⟨h0, h2, h3⟩
  · obtain ⟨C, hC⟩ : ∃ C : Prop, (host = 0 ∧ port = 0 ∧ code = 0 ∧ reason = [] ∧ soft.length ≤ 100 ∧ reason.length ≤ 100 ∧ unk.length ≤ 20) = C := ⟨_, rfl⟩
    have HV : Hid (F = true → C ∧ ∀ n ∈ unk, sNum 0 n = true) := shid (fun e => by
      rw [← HF.out] at e
      have h := (rightS_iff _).1 e
      exact ⟨by rw [← hC]; exact ⟨(h.mapped (show (0 : Int) ≠ 2 by decide)).1, (h.mapped (show (0 : Int) ≠ 2 by decide)).2, (h.none (show (0 : Int) ≠ 3 by decide)).1, (h.none (show (0 : Int) ≠ 3 by decide)).2, h.soft, h.reason, h.unk⟩, fun n hn => decide_eq_true (h.nums n hn)⟩)
    have HT0 : Hid (C → unk.all (sNum 0) = true → F = true) := shid (fun hc ha => by
      rw [← hC] at hc
      obtain ⟨h1, h2, h3, h4, h5, h6, h7⟩ := hc
      rw [← HF.out]
      exact (rightS_iff _).2 ⟨.inl rfl, fun _ => ⟨h1, h2⟩, (show (0 : Int) ≤ port by omega), (show port ≤ (65535 : Int) by omega), fun _ => ⟨h3, h4⟩, (fun e => absurd e (show ¬ (0 : Int) = 3 by decide)), h5, h6, h7, (fun e => absurd e (show ¬ (0 : Int) = 3 by decide)), fun n hn => of_decide_eq_true (List.all_eq_true.1 ha n hn)⟩)
    by_cases hc : C
    · have HT : Hid (unk.all (sNum 0) = true → F = true) := shid (HT0.out hc)
      rw [← hC] at hc
      obtain ⟨h1, h2, h3, h4, h5, h6, h7⟩ := hc
      subst h1 h2 h3
      have hrl2 : (S reason).toList = [] := by rw [hrl, h4]
      have g6 : ¬ (100 : Int) < (reason.length : Int) := by omega
      clear hrl h4
      have g5 : ¬ (100 : Int) < (soft.length : Int) := by omega
      have g7 : ¬ (20 : Int) < (unk.length : Int) := by omega
      clear HT0 hC
      go_enter Try.func13, Try.ntmps13
      go_wp2_with fail
      have HB : Hid (Below w.heap.size w (w.alloc (.cells #[.int .i64 0, .slice ia id.length ic, .int .u32 0, .int .i64 0, .string (S soft), .int .i64 0, .string (S reason), .slice ua unk.length uc] 37))) := shid ((Below.refl _ _).alloc (Nat.le_refl _) _)
      go_loopw [3] (fun i wr => ∃ k : Nat, k ≤ unk.length ∧ i = .int .i64 k ∧ Hid (((unk.take k).all (sNum 0)) = true) ∧ wr = w.alloc (.cells #[.int .i64 0, .slice ia id.length ic, .int .u32 0, .int .i64 0, .string (S soft), .int .i64 0, .string (S reason), .slice ua unk.length uc] 37)) (fun i _ => unk.length - (intOf i).toNat)
      case atStart => exact ⟨0, Nat.zero_le _, rfl, shid (by simp), rfl⟩
      case round =>
        obtain ⟨k, hk, rfl, hall, rfl⟩ := hrel
        by_cases hlt : k < unk.length
        · have i1 : (k : Int) < (unk.length : Int) := by omega
          obtain ⟨b, off, rfl, hbw, hc0⟩ := HU.out.at_ k hlt
          have hc := hc0
          rw [← HB.out.cell (p := ⟨b, off + k, none⟩) hbw] at hc
          clear hc0
          have hmem : unk[k] ∈ unk := List.getElem_mem hlt
          have hbad : Hid (sNum 0 unk[k] = false → F = false) := shid (fun e => by
            cases hFF : F with
            | false => rfl
            | true =>
              have := HV.out hFF
              have h2 := this.2 _ hmem
              rw [e] at h2
              cases h2)
          have hnext : Hid (sNum 0 unk[k] = true → ((unk.take (k + 1)).all (sNum 0)) = true) := shid (fun e => by
            rw [List.take_succ_eq_append_getElem hlt, List.all_append, hall.out]
            simp [e])
          generalize unk[k] = n at hc hbad hnext
          clear hmem
          by_cases n0 : n < 0
          · have hv : F = false := hbad.out (decide_eq_false (fun h => by have := h.1; omega))
            subst hv
            go_wp2_with fail
            go_ret
            exact ⟨rfl, HB.out⟩
          by_cases n1 : 65535 < n
          · have hv : F = false := hbad.out (decide_eq_false (fun h => by have := h.2.1; omega))
            subst hv
            go_wp2_with fail
            go_ret
            exact ⟨rfl, HB.out⟩
          by_cases n2 : 32767 < n
          · have hv : F = false := hbad.out (decide_eq_false (fun h => by have := (h.2.2 (by decide)).1; omega))
            subst hv
            go_wp2_with fail
            go_ret
            exact ⟨rfl, HB.out⟩
          · cases hkn : sKnown n with
            | true =>
              have hv : F = false := hbad.out (decide_eq_false (fun h => by have := (h.2.2 (by decide)).2; rw [hkn] at this; cases this))
              subst hv
              clear hbad hnext
              go_wp2_with fail
              refine (known_any n _).mono ?_
              rintro e w' ⟨rfl, rfl⟩
              rw [hkn]
              go_wp2_with fail
              go_ret
              exact ⟨rfl, HB.out⟩
            | false =>
              have hgo := hnext.out (decide_eq_true ⟨by omega, by omega, fun _ => ⟨by omega, hkn⟩⟩)
              have HG := shid hgo
              clear hgo hnext hbad
              go_wp2_with fail
              refine (known_any n _).mono ?_
              rintro e w' ⟨rfl, rfl⟩
              rw [hkn]
              go_wp2_with fail
              exact ⟨⟨k + 1, by omega, by go_num, HG, trivial⟩, by simp [intOf]; omega⟩
        · have i1 : ¬ (k : Int) < (unk.length : Int) := by omega
          have hv : F = true := by
            have h2 := hall.out
            rw [List.take_of_length_le (by omega)] at h2
            exact HT.out h2
          subst hv
          go_wp2_with fail
          go_ret
          exact ⟨rfl, HB.out⟩
    · have hv : F = false := by
        cases hFF : F with
        | false => rfl
        | true => exact absurd (HV.out hFF).1 hc
      have HN : Hid (¬ (host = 0 ∧ port = 0 ∧ code = 0 ∧ reason = [] ∧ soft.length ≤ 100 ∧ reason.length ≤ 100 ∧ unk.length ≤ 20)) := shid (by rw [hC]; exact hc)
      subst hv
      clear hC hc HV HT0 HF
      go_enter Try.func13, Try.ntmps13
      go_wp2_with fail
      all_goals first
        | (go_ret; exact ⟨rfl, (Below.refl _ _).alloc (Nat.le_refl _) _⟩)
        | (exfalso; refine HN.out ?_; refine ⟨?_, ?_, ?_, ?_, ?_, ?_, ?_⟩ <;> first | assumption | omega | (subst_vars; simp))
  · obtain ⟨C, hC⟩ : ∃ C : Prop, (0 ≤ port ∧ port ≤ 65535 ∧ code = 0 ∧ reason = [] ∧ soft.length ≤ 100 ∧ reason.length ≤ 100 ∧ unk.length ≤ 20) = C := ⟨_, rfl⟩
    have HV : Hid (F = true → C ∧ ∀ n ∈ unk, sNum 2 n = true) := shid (fun e => by
      rw [← HF.out] at e
      have h := (rightS_iff _).1 e
      exact ⟨by rw [← hC]; exact ⟨h.p0, h.p1, (h.none (show (2 : Int) ≠ 3 by decide)).1, (h.none (show (2 : Int) ≠ 3 by decide)).2, h.soft, h.reason, h.unk⟩, fun n hn => decide_eq_true (h.nums n hn)⟩)
    have HT0 : Hid (C → unk.all (sNum 2) = true → F = true) := shid (fun hc ha => by
      rw [← hC] at hc
      obtain ⟨h1, h2, h3, h4, h5, h6, h7⟩ := hc
      rw [← HF.out]
      exact (rightS_iff _).2 ⟨.inr (.inl rfl), fun e => absurd rfl e, h1, h2, fun _ => ⟨h3, h4⟩, (fun e => absurd e (show ¬ (2 : Int) = 3 by decide)), h5, h6, h7, (fun e => absurd e (show ¬ (2 : Int) = 3 by decide)), fun n hn => of_decide_eq_true (List.all_eq_true.1 ha n hn)⟩)
    by_cases hc : C
    · have HT : Hid (unk.all (sNum 2) = true → F = true) := shid (HT0.out hc)
      rw [← hC] at hc
      obtain ⟨h1, h2, h3, h4, h5, h6, h7⟩ := hc
      subst h3
      have hrl2 : (S reason).toList = [] := by rw [hrl, h4]
      have g6 : ¬ (100 : Int) < (reason.length : Int) := by omega
      clear hrl h4
      have g1 : ¬ port < 0 := by omega
      have g2 : ¬ (65535 : Int) < port := by omega
      have g5 : ¬ (100 : Int) < (soft.length : Int) := by omega
      have g7 : ¬ (20 : Int) < (unk.length : Int) := by omega
      clear HT0 hC
      go_enter Try.func13, Try.ntmps13
      go_wp2_with fail
      have HB : Hid (Below w.heap.size w (w.alloc (.cells #[.int .i64 2, .slice ia id.length ic, .int .u32 (host : Int), .int .i64 port, .string (S soft), .int .i64 0, .string (S reason), .slice ua unk.length uc] 37))) := shid ((Below.refl _ _).alloc (Nat.le_refl _) _)
      go_loopw [3] (fun i wr => ∃ k : Nat, k ≤ unk.length ∧ i = .int .i64 k ∧ Hid (((unk.take k).all (sNum 2)) = true) ∧ wr = w.alloc (.cells #[.int .i64 2, .slice ia id.length ic, .int .u32 (host : Int), .int .i64 port, .string (S soft), .int .i64 0, .string (S reason), .slice ua unk.length uc] 37)) (fun i _ => unk.length - (intOf i).toNat)
      case atStart => exact ⟨0, Nat.zero_le _, rfl, shid (by simp), rfl⟩
      case round =>
        obtain ⟨k, hk, rfl, hall, rfl⟩ := hrel
        by_cases hlt : k < unk.length
        · have i1 : (k : Int) < (unk.length : Int) := by omega
          obtain ⟨b, off, rfl, hbw, hc0⟩ := HU.out.at_ k hlt
          have hc := hc0
          rw [← HB.out.cell (p := ⟨b, off + k, none⟩) hbw] at hc
          clear hc0
          have hmem : unk[k] ∈ unk := List.getElem_mem hlt
          have hbad : Hid (sNum 2 unk[k] = false → F = false) := shid (fun e => by
            cases hFF : F with
            | false => rfl
            | true =>
              have := HV.out hFF
              have h2 := this.2 _ hmem
              rw [e] at h2
              cases h2)
          have hnext : Hid (sNum 2 unk[k] = true → ((unk.take (k + 1)).all (sNum 2)) = true) := shid (fun e => by
            rw [List.take_succ_eq_append_getElem hlt, List.all_append, hall.out]
            simp [e])
          generalize unk[k] = n at hc hbad hnext
          clear hmem
          by_cases n0 : n < 0
          · have hv : F = false := hbad.out (decide_eq_false (fun h => by have := h.1; omega))
            subst hv
            go_wp2_with fail
            go_ret
            exact ⟨rfl, HB.out⟩
          by_cases n1 : 65535 < n
          · have hv : F = false := hbad.out (decide_eq_false (fun h => by have := h.2.1; omega))
            subst hv
            go_wp2_with fail
            go_ret
            exact ⟨rfl, HB.out⟩
          by_cases n2 : 32767 < n
          · have hv : F = false := hbad.out (decide_eq_false (fun h => by have := (h.2.2 (by decide)).1; omega))
            subst hv
            go_wp2_with fail
            go_ret
            exact ⟨rfl, HB.out⟩
          · cases hkn : sKnown n with
            | true =>
              have hv : F = false := hbad.out (decide_eq_false (fun h => by have := (h.2.2 (by decide)).2; rw [hkn] at this; cases this))
              subst hv
              clear hbad hnext
              go_wp2_with fail
              refine (known_any n _).mono ?_
              rintro e w' ⟨rfl, rfl⟩
              rw [hkn]
              go_wp2_with fail
              go_ret
              exact ⟨rfl, HB.out⟩
            | false =>
              have hgo := hnext.out (decide_eq_true ⟨by omega, by omega, fun _ => ⟨by omega, hkn⟩⟩)
              have HG := shid hgo
              clear hgo hnext hbad
              go_wp2_with fail
              refine (known_any n _).mono ?_
              rintro e w' ⟨rfl, rfl⟩
              rw [hkn]
              go_wp2_with fail
              exact ⟨⟨k + 1, by omega, by go_num, HG, trivial⟩, by simp [intOf]; omega⟩
        · have i1 : ¬ (k : Int) < (unk.length : Int) := by omega
          have hv : F = true := by
            have h2 := hall.out
            rw [List.take_of_length_le (by omega)] at h2
            exact HT.out h2
          subst hv
          go_wp2_with fail
          go_ret
          exact ⟨rfl, HB.out⟩
    · have hv : F = false := by
        cases hFF : F with
        | false => rfl
        | true => exact absurd (HV.out hFF).1 hc
      have HN : Hid (¬ (0 ≤ port ∧ port ≤ 65535 ∧ code = 0 ∧ reason = [] ∧ soft.length ≤ 100 ∧ reason.length ≤ 100 ∧ unk.length ≤ 20)) := shid (by rw [hC]; exact hc)
      subst hv
      clear hC hc HV HT0 HF
      go_enter Try.func13, Try.ntmps13
      go_wp2_with fail
      all_goals first
        | (go_ret; exact ⟨rfl, (Below.refl _ _).alloc (Nat.le_refl _) _⟩)
        | (exfalso; refine HN.out ?_; refine ⟨?_, ?_, ?_, ?_, ?_, ?_, ?_⟩ <;> first | assumption | omega | (subst_vars; simp))
  · obtain ⟨C, hC⟩ : ∃ C : Prop, (host = 0 ∧ port = 0 ∧ 300 ≤ code ∧ code ≤ 699 ∧ soft.length ≤ 100 ∧ reason.length ≤ 100 ∧ unk.length ≤ 20 ∧ (code ≠ 420 → unk.length = 0)) = C := ⟨_, rfl⟩
    have HV : Hid (F = true → C ∧ ∀ n ∈ unk, sNum 3 n = true) := shid (fun e => by
      rw [← HF.out] at e
      have h := (rightS_iff _).1 e
      exact ⟨by rw [← hC]; exact ⟨(h.mapped (show (3 : Int) ≠ 2 by decide)).1, (h.mapped (show (3 : Int) ≠ 2 by decide)).2, (h.code rfl).1, (h.code rfl).2, h.soft, h.reason, h.unk, fun e => by have := h.only rfl e; exact List.length_eq_zero_iff.2 this⟩, fun n hn => decide_eq_true (h.nums n hn)⟩)
    have HT0 : Hid (C → unk.all (sNum 3) = true → F = true) := shid (fun hc ha => by
      rw [← hC] at hc
      obtain ⟨h1, h2, h3, h4, h5, h6, h7, h8⟩ := hc
      rw [← HF.out]
      exact (rightS_iff _).2 ⟨.inr (.inr rfl), fun _ => ⟨h1, h2⟩, (show (0 : Int) ≤ port by omega), (show port ≤ (65535 : Int) by omega), fun e => absurd rfl e, fun _ => ⟨h3, h4⟩, h5, h6, h7, fun _ e => List.length_eq_zero_iff.1 (h8 e), fun n hn => of_decide_eq_true (List.all_eq_true.1 ha n hn)⟩)
    by_cases hc : C
    · have HT : Hid (unk.all (sNum 3) = true → F = true) := shid (HT0.out hc)
      rw [← hC] at hc
      obtain ⟨h1, h2, h3, h4, h5, h6, h7, h8⟩ := hc
      subst h1 h2
      have g1 : ¬ code < 300 := by omega
      have g2 : ¬ (699 : Int) < code := by omega
      have g5 : ¬ (100 : Int) < (soft.length : Int) := by omega
      have g6 : ¬ (100 : Int) < (reason.length : Int) := by omega
      have g7 : ¬ (20 : Int) < (unk.length : Int) := by omega
      have g8 : code = 420 ∨ ¬ code = 420 ∧ ¬ (0 : Int) < (unk.length : Int) := by omega
      clear HT0 hC h8
      rcases g8 with rfl | ⟨g8, g9⟩
      · go_enter Try.func13, Try.ntmps13
        go_wp2_with fail
        have HB : Hid (Below w.heap.size w (w.alloc (.cells #[.int .i64 3, .slice ia id.length ic, .int .u32 0, .int .i64 0, .string (S soft), .int .i64 420, .string (S reason), .slice ua unk.length uc] 37))) := shid ((Below.refl _ _).alloc (Nat.le_refl _) _)
        go_loopw [3] (fun i wr => ∃ k : Nat, k ≤ unk.length ∧ i = .int .i64 k ∧ Hid (((unk.take k).all (sNum 3)) = true) ∧ wr = w.alloc (.cells #[.int .i64 3, .slice ia id.length ic, .int .u32 0, .int .i64 0, .string (S soft), .int .i64 420, .string (S reason), .slice ua unk.length uc] 37)) (fun i _ => unk.length - (intOf i).toNat)
        case atStart => exact ⟨0, Nat.zero_le _, rfl, shid (by simp), rfl⟩
        case round =>
          obtain ⟨k, hk, rfl, hall, rfl⟩ := hrel
          by_cases hlt : k < unk.length
          · have i1 : (k : Int) < (unk.length : Int) := by omega
            obtain ⟨b, off, rfl, hbw, hc0⟩ := HU.out.at_ k hlt
            have hc := hc0
            rw [← HB.out.cell (p := ⟨b, off + k, none⟩) hbw] at hc
            clear hc0
            have hmem : unk[k] ∈ unk := List.getElem_mem hlt
            have hbad : Hid (sNum 3 unk[k] = false → F = false) := shid (fun e => by
              cases hFF : F with
              | false => rfl
              | true =>
                have := HV.out hFF
                have h2 := this.2 _ hmem
                rw [e] at h2
                cases h2)
            have hnext : Hid (sNum 3 unk[k] = true → ((unk.take (k + 1)).all (sNum 3)) = true) := shid (fun e => by
              rw [List.take_succ_eq_append_getElem hlt, List.all_append, hall.out]
              simp [e])
            generalize unk[k] = n at hc hbad hnext
            clear hmem
            by_cases n0 : n < 0
            · have hv : F = false := hbad.out (decide_eq_false (fun h => by have := h.1; omega))
              subst hv
              go_wp2_with fail
              go_ret
              exact ⟨rfl, HB.out⟩
            by_cases n1 : 65535 < n
            · have hv : F = false := hbad.out (decide_eq_false (fun h => by have := h.2.1; omega))
              subst hv
              go_wp2_with fail
              go_ret
              exact ⟨rfl, HB.out⟩
            · have hgo := hnext.out (decide_eq_true ⟨by omega, by omega, fun h => absurd rfl h⟩)
              have HG := shid hgo
              clear hgo hnext hbad
              go_wp2_with fail
              exact ⟨⟨k + 1, by omega, by go_num, HG, trivial⟩, by simp [intOf]; omega⟩
          · have i1 : ¬ (k : Int) < (unk.length : Int) := by omega
            have hv : F = true := by
              have h2 := hall.out
              rw [List.take_of_length_le (by omega)] at h2
              exact HT.out h2
            subst hv
            go_wp2_with fail
            go_ret
            exact ⟨rfl, HB.out⟩
      · go_enter Try.func13, Try.ntmps13
        go_wp2_with fail
        have HB : Hid (Below w.heap.size w (w.alloc (.cells #[.int .i64 3, .slice ia id.length ic, .int .u32 0, .int .i64 0, .string (S soft), .int .i64 code, .string (S reason), .slice ua unk.length uc] 37))) := shid ((Below.refl _ _).alloc (Nat.le_refl _) _)
        go_loopw [3] (fun i wr => ∃ k : Nat, k ≤ unk.length ∧ i = .int .i64 k ∧ Hid (((unk.take k).all (sNum 3)) = true) ∧ wr = w.alloc (.cells #[.int .i64 3, .slice ia id.length ic, .int .u32 0, .int .i64 0, .string (S soft), .int .i64 code, .string (S reason), .slice ua unk.length uc] 37)) (fun i _ => unk.length - (intOf i).toNat)
        case atStart => exact ⟨0, Nat.zero_le _, rfl, shid (by simp), rfl⟩
        case round =>
          obtain ⟨k, hk, rfl, hall, rfl⟩ := hrel
          by_cases hlt : k < unk.length
          · exfalso; omega
          · have i1 : ¬ (k : Int) < (unk.length : Int) := by omega
            have hv : F = true := by
              have h2 := hall.out
              rw [List.take_of_length_le (by omega)] at h2
              exact HT.out h2
            subst hv
            go_wp2_with fail
            go_ret
            exact ⟨rfl, HB.out⟩
    · have hv : F = false := by
        cases hFF : F with
        | false => rfl
        | true => exact absurd (HV.out hFF).1 hc
      have HN : Hid (¬ (host = 0 ∧ port = 0 ∧ 300 ≤ code ∧ code ≤ 699 ∧ soft.length ≤ 100 ∧ reason.length ≤ 100 ∧ unk.length ≤ 20 ∧ (code ≠ 420 → unk.length = 0))) := shid (by rw [hC]; exact hc)
      subst hv
      clear hC hc HV HT0 HF
      by_cases h420 : code = 420
      case' pos => subst h420
      case' neg => have h420b : (code != 420) = true := by rw [bne_iff_ne]; exact h420
      all_goals
        go_enter Try.func13, Try.ntmps13
        go_wp2_with fail
        all_goals first
          | (go_ret; exact ⟨rfl, (Below.refl _ _).alloc (Nat.le_refl _) _⟩)
          | (exfalso; refine HN.out ?_; refine ⟨?_, ?_, ?_, ?_, ?_, ?_, ?_, ?_⟩ <;> first | assumption | omega | (subst_vars; simp))
  · have hv : F = false := by
      cases hFF : F with
      | false => rfl
      | true =>
        rw [← HF.out] at hFF
        have := ((rightS_iff _).1 hFF).cls
        simp only at this
        omega
    subst hv
    clear HF
    have b0 : (cls != 0) = true := by rw [bne_iff_ne]; exact h0
    have b2 : (cls != 2) = true := by rw [bne_iff_ne]; exact h2
    have b3 : (cls != 3) = true := by rw [bne_iff_ne]; exact h3
    go_enter Try.func13, Try.ntmps13
    go_wp2_with fail
    go_ret
    exact ⟨rfl, (Below.refl _ _).alloc (Nat.le_refl _) _⟩
end Go.Proofs.Ytejbhjcopldekaa
