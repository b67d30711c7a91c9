/- How the program reads a message: to the end, the last attribute with the others; it comes to what the document reads (stage 12). -/
import Derived.Test.YtejbhjcopldekaaMathStuC
namespace Go.Proofs.Ytejbhjcopldekaa
set_option linter.unusedVariables false

/-- What an attribute tells the program. -/
def SM.hstep (m : SM) (p : Nat × List UInt8) : Option SM :=
  if p.1 = 32 then (if p.2.length < 8 then none else some { m with host := getV p.2 true 4 4 ^^^ 554869826, port := ((sTwo p.2 2 ^^^ 8466 : Nat) : Int) })
  else if p.1 = 9 then (if p.2.length < 4 then none else some { m with code := (at8 p.2 2).toNat * 100 + (at8 p.2 3).toNat, reason := p.2.drop 4 })
  else if p.1 = 10 then (if p.2.length % 2 = 1 then none else some { m with unk := m.unk ++ sTwos p.2 (p.2.length / 2) })
  else if p.1 = 32802 then some { m with soft := p.2 }
  else if p.1 = 32808 then some m
  else some { m with unk := m.unk ++ [(p.1 : Int)] }
/-- The attributes from a place on. -/
def hParse (b : List UInt8) : Nat → Nat → SM → Option SM
  | 0, _, _ => none
  | f + 1, at_, m => if b.length ≤ at_ then some m else if b.length < at_ + 4 then none else if b.length < at_ + 4 + (sTwo b (at_ + 2) + 3) / 4 * 4 then none
    else (m.hstep (sTwo b at_, cutB b (at_ + 4) (sTwo b (at_ + 2)))).bind fun x => hParse b f (at_ + 4 + (sTwo b (at_ + 2) + 3) / 4 * 4) x
def hearS (b : List UInt8) : Option SM :=
  if b.length < 20 then none else (sClass (sTwo b 0)).bind fun c => if sTwo b 2 + 20 = b.length then hParse b b.length 20 (sZero c (cutB b 8 12)) else none

theorem sBody_nums : ∀ l : List Int, (sBody (l.map fun n => (n.toNat, ([] : List UInt8)))).length = 4 * l.length
  | [] => rfl
  | n :: l => by
    have e : sBody ((n :: l).map fun n => (n.toNat, ([] : List UInt8))) = sAttr (n.toNat, []) ++ sBody (l.map fun n => (n.toNat, ([] : List UInt8))) := by simp [sBody]
    rw [e, List.length_append, sAttr_length, sBody_nums l, List.length_cons]
    show 4 + (0 + 3) / 4 * 4 + 4 * l.length = 4 * (l.length + 1)
    omega
theorem sBody_one (p : Nat × List UInt8) : (sBody [p]).length = 4 + (p.2.length + 3) / 4 * 4 := by
  have e : sBody [p] = sAttr p := by simp [sBody]
  rw [e, sAttr_length]
/-- A right message has few bytes. -/
theorem body_small (m : SM) (h : m.Right) : (sBody m.attrs).length ≤ 360 := by
  have h1 := h.soft
  have h2 := h.reason
  have h3 := h.unk
  unfold SM.attrs
  simp only [sBody_append, List.length_append]
  have a1 : (sBody (if m.cls = 2 then [(32, [0, 1] ++ putB 2 (m.port.toNat ^^^ 8466) true ++ putB 4 (m.host ^^^ 554869826) true)] else [])).length ≤ 12 := by
    split
    · rw [sBody_one]; simp [putB_length]
    · simp [sBody]
  have a2 : (sBody (if m.cls = 3 then [(9, [0, 0, UInt8.ofNat (m.code.toNat / 100), UInt8.ofNat (m.code.toNat % 100)] ++ m.reason)] else [])).length ≤ 110 := by
    split
    · rw [sBody_one]; simp; omega
    · simp [sBody]
  have a3 : (sBody (if m.cls = 3 ∧ m.unk ≠ [] then [(10, sUnk m.unk)] else [])).length ≤ 48 := by
    split
    · rw [sBody_one]; simp [sUnk_length]; omega
    · simp [sBody]
  have a4 : (sBody (if m.cls = 3 then [] else m.unk.map fun n => (n.toNat, []))).length ≤ 80 := by
    split
    · simp [sBody]
    · rw [sBody_nums]; omega
  have a5 : (sBody (if m.soft ≠ [] then [(32802, m.soft)] else [])).length ≤ 110 := by
    split
    · rw [sBody_one]; simp; omega
    · simp [sBody]
  omega
theorem encS_small (m : SM) (h : m.Right) (hid : m.id.length = 12) : (encS m).length ≤ 388 := by
  have := body_small m h
  unfold encS
  rw [sFin_length, out_length m hid]; omega
/-- A list of attributes, each read as the document reads it. -/
def HOk (c : Int) (p : Nat × List UInt8) : Prop := ∀ m : SM, m.cls = c → m.hstep p = some (m.step p)
theorem hparse_attrs (last : Nat × List UInt8) (hlast : last.1 < 65536 ∧ last.2.length < 65536) (hl : ∀ m : SM, m.hstep last = some m) (c : Int) : ∀ (A : List (Nat × List UInt8)) (b pre : List UInt8) (f : Nat) (m : SM), m.cls = c → (∀ p ∈ A, p.1 < 65536 ∧ p.2.length < 65536 ∧ HOk c p) →
    b = pre ++ sBody A ++ sAttr last → A.length + 1 < f → hParse b f pre.length m = some (A.foldl SM.step m)
  | [], b, pre, 0, m, _, _, hb, hf => by omega
  | [], b, pre, 1, m, _, _, hb, hf => by simp at hf
  | [], b, pre, f + 2, m, hc, _, hb, hf => by
    have ha := sAttr_length last
    have hb' : b = pre ++ sAttr last := by rw [hb]; simp [sBody]
    have hbl : b.length = pre.length + (sAttr last).length := by rw [hb', List.length_append]
    have k1 : sTwo b pre.length = last.1 := by
      have := getV_at b pre (putB 2 last.2.length true ++ last.2 ++ pad4 last.2.length) 2 last.1 pre.length (by rw [hb', sAttr]; simp) rfl
      rw [sTwo, this]
      exact Nat.mod_eq_of_lt hlast.1
    have k2 : sTwo b (pre.length + 2) = last.2.length := by
      have := getV_at b (pre ++ putB 2 last.1 true) (last.2 ++ pad4 last.2.length) 2 last.2.length (pre.length + 2) (by rw [hb', sAttr]; simp) (by rw [List.length_append, putB_length])
      rw [sTwo, this]
      exact Nat.mod_eq_of_lt hlast.2
    have k3 : cutB b (pre.length + 4) last.2.length = last.2 :=
      cut_at b (pre ++ putB 2 last.1 true ++ putB 2 last.2.length true) last.2 (pad4 last.2.length) (pre.length + 4) last.2.length (by rw [hb', sAttr]; simp) (by rw [List.length_append, List.length_append, putB_length, putB_length]) rfl
    rw [hParse, if_neg (by omega), if_neg (by omega), k1, k2, if_neg (by omega), k3, hl m]
    simp only [Option.bind_some]
    rw [hParse, if_pos (by omega)]
    rfl
  | p :: A, b, pre, 0, m, _, hA, hb, hf => by omega
  | p :: A, b, pre, f + 1, m, hc, hA, hb, hf => by
    obtain ⟨h1, h2, h3⟩ := hA p (by simp)
    have e0 : sBody (p :: A) = sAttr p ++ sBody A := by simp [sBody]
    have hb' : b = (pre ++ sAttr p) ++ sBody A ++ sAttr last := by rw [hb, e0]; simp
    have ha := sAttr_length p
    have hbl : b.length = pre.length + (sAttr p).length + (sBody A).length + (sAttr last).length := by rw [hb']; simp; omega
    have k1 : sTwo b pre.length = p.1 := by
      have := getV_at b pre (putB 2 p.2.length true ++ p.2 ++ pad4 p.2.length ++ sBody A ++ sAttr last) 2 p.1 pre.length (by rw [hb']; simp [sAttr]) rfl
      rw [sTwo, this]
      exact Nat.mod_eq_of_lt h1
    have k2 : sTwo b (pre.length + 2) = p.2.length := by
      have := getV_at b (pre ++ putB 2 p.1 true) (p.2 ++ pad4 p.2.length ++ sBody A ++ sAttr last) 2 p.2.length (pre.length + 2) (by rw [hb']; simp [sAttr]) (by rw [List.length_append, putB_length])
      rw [sTwo, this]
      exact Nat.mod_eq_of_lt h2
    have k3 : cutB b (pre.length + 4) p.2.length = p.2 :=
      cut_at b (pre ++ putB 2 p.1 true ++ putB 2 p.2.length true) p.2 (pad4 p.2.length ++ sBody A ++ sAttr last) (pre.length + 4) p.2.length (by rw [hb']; simp [sAttr]) (by rw [List.length_append, List.length_append, putB_length, putB_length]) rfl
    rw [hParse, if_neg (by omega), if_neg (by omega), k1, k2, if_neg (by omega), k3, h3 m hc]
    simp only [Option.bind_some]
    have := hparse_attrs last hlast hl c A b (pre ++ sAttr p) f (m.step p) ((step_keeps m p).2.1.trans hc) (fun q hq => hA q (by simp [hq])) hb' (by simp at hf; omega)
    rw [List.length_append, ha, ← Nat.add_assoc] at this
    exact this
theorem attrs_hear (m : SM) (h : m.Right) : ∀ p ∈ m.attrs, HOk m.cls p := by
  intro p hp x hx
  unfold SM.attrs at hp
  simp only [List.mem_append] at hp
  rcases hp with (((hp | hp) | hp) | hp) | hp
  · split at hp
    · rename_i hc
      rw [List.mem_singleton] at hp; subst hp
      have hl : ([0, 1] ++ putB 2 (m.port.toNat ^^^ 8466) true ++ putB 4 (m.host ^^^ 554869826) true).length = 8 := by simp [putB_length]
      unfold SM.hstep SM.step
      rw [if_pos rfl, if_neg (by rw [hl]; decide), if_pos ⟨rfl, hx.trans hc, hl⟩]
    · cases hp
  · split at hp
    · rename_i hc
      rw [List.mem_singleton] at hp; subst hp
      have hl : 4 ≤ ([0, 0, UInt8.ofNat (m.code.toNat / 100), UInt8.ofNat (m.code.toNat % 100)] ++ m.reason).length := by simp
      unfold SM.hstep SM.step
      rw [if_neg (by show ¬ (9 : Nat) = 32; decide), if_pos rfl, if_neg (by exact Nat.not_lt.2 hl), if_neg (by rintro ⟨h, _⟩; cases h), if_pos ⟨rfl, hx.trans hc, hl⟩]
    · cases hp
  · split at hp
    · rename_i hc
      rw [List.mem_singleton] at hp; subst hp
      have hl := sUnk_length m.unk
      unfold SM.hstep SM.step
      rw [if_neg (by show ¬ (10 : Nat) = 32; decide), if_neg (by show ¬ (10 : Nat) = 9; decide), if_pos rfl, if_neg (by show ¬ (sUnk m.unk).length % 2 = 1; omega), if_neg (by rintro ⟨h, _⟩; cases h), if_neg (by rintro ⟨h, _⟩; cases h), if_pos ⟨rfl, hx.trans hc.1⟩]
    · cases hp
  · split at hp
    · cases hp
    · rename_i hc
      obtain ⟨n, hn, rfl⟩ := List.mem_map.1 hp
      obtain ⟨n0, n1, n2⟩ := h.nums n hn
      obtain ⟨n3, n4⟩ := n2 hc
      have n5 : ¬ (n = 1 ∨ n = 6 ∨ n = 8 ∨ n = 9 ∨ n = 10 ∨ n = 20 ∨ n = 21 ∨ n = 32) := of_decide_eq_false n4
      unfold SM.hstep SM.step
      rw [if_neg (by show ¬ n.toNat = 32; omega), if_neg (by show ¬ n.toNat = 9; omega), if_neg (by show ¬ n.toNat = 10; omega), if_neg (by show ¬ n.toNat = 32802; omega), if_neg (by show ¬ n.toNat = 32808; omega),
        if_neg (by rintro ⟨h, _⟩; exact absurd h (by show ¬ n.toNat = 32; omega)), if_neg (by rintro ⟨h, _⟩; exact absurd h (by show ¬ n.toNat = 9; omega)), if_neg (by rintro ⟨h, _⟩; exact absurd h (by show ¬ n.toNat = 10; omega)), if_neg (by show ¬ n.toNat = 32802; omega)]
  · split at hp
    · rw [List.mem_singleton] at hp; subst hp
      unfold SM.hstep SM.step
      rw [if_neg (by show ¬ (32802 : Nat) = 32; decide), if_neg (by show ¬ (32802 : Nat) = 9; decide), if_neg (by show ¬ (32802 : Nat) = 10; decide), if_pos rfl, if_neg (by rintro ⟨h, _⟩; cases h), if_neg (by rintro ⟨h, _⟩; cases h), if_neg (by rintro ⟨h, _⟩; cases h), if_pos rfl]
    · cases hp
/-- What a right message tells is heard. -/
theorem hearS_encS (m : SM) (h : m.Right) (hid : m.id.length = 12) (hh : m.host < 4294967296) : hearS (encS m) = some m := by
  have hol := out_length m hid
  have hbl : (encS m).length = 28 + (sBody m.attrs).length := by unfold encS; rw [sFin_length, hol]; omega
  obtain ⟨last, hlast⟩ : ∃ last, ((32808, putB 4 ((crcOf m.out).toNat ^^^ 1398035790) true) : Nat × List UInt8) = last := ⟨_, rfl⟩
  have h1 : last.1 = 32808 := by rw [← hlast]
  have h2 : last.2.length = 4 := by rw [← hlast]; simp [putB_length]
  have hb : encS m = putB 2 (sKind m.cls) true ++ putB 2 ((sBody m.attrs).length + 8) true ++ putB 4 554869826 true ++ m.id ++ sBody m.attrs ++ sAttr last := by
    unfold encS sFin; rw [hlast]; rfl
  have k0 : sTwo (encS m) 0 = sKind m.cls := by
    rw [sTwo, getV_at (encS m) [] (putB 2 ((sBody m.attrs).length + 8) true ++ putB 4 554869826 true ++ m.id ++ sBody m.attrs ++ sAttr last) 2 (sKind m.cls) 0 (by rw [hb]; simp) rfl]
    exact Nat.mod_eq_of_lt (sKind_small _)
  have hsm : (sBody m.attrs).length < 60000 := by
    have := encS_small m h hid
    omega
  have k4 : sTwo (encS m) 2 = (sBody m.attrs).length + 8 := by
    rw [sTwo, getV_at (encS m) (putB 2 (sKind m.cls) true) (putB 4 554869826 true ++ m.id ++ sBody m.attrs ++ sAttr last) 2 ((sBody m.attrs).length + 8) 2 (by rw [hb]; simp) (by rw [putB_length])]
    exact Nat.mod_eq_of_lt (by omega)
  have k1 : cutB (encS m) 8 12 = m.id :=
    cut_at (encS m) (putB 2 (sKind m.cls) true ++ putB 2 ((sBody m.attrs).length + 8) true ++ putB 4 554869826 true) m.id (sBody m.attrs ++ sAttr last) 8 12 (by rw [hb]; simp) (by simp [putB_length]) hid
  have k2 := hparse_attrs last (by rw [h1, h2]; decide) (fun x => by unfold SM.hstep; rw [if_neg (by omega), if_neg (by omega), if_neg (by omega), if_neg (by omega), if_pos h1]) m.cls m.attrs (encS m)
    (putB 2 (sKind m.cls) true ++ putB 2 ((sBody m.attrs).length + 8) true ++ putB 4 554869826 true ++ m.id) (encS m).length (sZero m.cls m.id) rfl (fun p hp => ⟨(attrs_small m h p hp).1, (attrs_small m h p hp).2, attrs_hear m h p hp⟩) hb (by have := sBody_long m.attrs; omega)
  rw [attrs_back m h hh, show (putB 2 (sKind m.cls) true ++ putB 2 ((sBody m.attrs).length + 8) true ++ putB 4 554869826 true ++ m.id).length = 20 by simp [putB_length, hid]] at k2
  unfold hearS
  rw [if_neg (by omega), k0, sClass_kind m h, k1]
  simp only [Option.bind_some]
  rw [if_pos (by omega), k2]
theorem hstep_keeps (m x : SM) (p : Nat × List UInt8) (h : m.hstep p = some x) : x.id = m.id ∧ x.cls = m.cls ∧ (m.host < 4294967296 → x.host < 4294967296) := by
  unfold SM.hstep at h
  split at h
  · split at h
    · cases h
    · cases h; exact ⟨rfl, rfl, fun _ => xor32 _ (getV_lt p.2 4 4)⟩
  · split at h
    · split at h
      · cases h
      · cases h; exact ⟨rfl, rfl, id⟩
    · split at h
      · split at h
        · cases h
        · cases h; exact ⟨rfl, rfl, id⟩
      · split at h
        · cases h; exact ⟨rfl, rfl, id⟩
        · split at h
          · cases h; exact ⟨rfl, rfl, id⟩
          · cases h; exact ⟨rfl, rfl, id⟩
theorem hparse_keeps (b : List UInt8) : ∀ (f at_ : Nat) (m m' : SM), hParse b f at_ m = some m' → m'.id = m.id ∧ m'.cls = m.cls ∧ (m.host < 4294967296 → m'.host < 4294967296)
  | 0, _, _, _, h => by cases h
  | f + 1, at_, m, m', h => by
    rw [hParse] at h
    split at h
    · cases h; exact ⟨rfl, rfl, id⟩
    · split at h
      · cases h
      · split at h
        · cases h
        · obtain ⟨x, hx, h⟩ := Option.bind_eq_some_iff.1 h
          obtain ⟨a1, a2, a3⟩ := hparse_keeps b f _ _ m' h
          obtain ⟨b1, b2, b3⟩ := hstep_keeps m x _ hx
          exact ⟨a1.trans b1, a2.trans b2, fun y => a3 (b3 y)⟩
theorem hearS_keeps (b : List UInt8) (m : SM) (h : hearS b = some m) : m.id.length = 12 ∧ m.host < 4294967296 := by
  unfold hearS at h
  split at h
  · cases h
  · obtain ⟨c, hc, h⟩ := Option.bind_eq_some_iff.1 h
    split at h
    · obtain ⟨k1, _, k3⟩ := hparse_keeps b _ _ _ _ h
      refine ⟨?_, k3 (by show 0 < 4294967296; decide)⟩
      rw [k1]
      show (cutB b 8 12).length = 12
      exact cutB_length b 8 12 (by omega)
    · cases h
/-- The program comes to what the document reads. -/
theorem hearS_dec (b : List UInt8) : (hearS b).bind (fun m => if rightS m = true ∧ encS m = b then some m else none) = decS b := by
  cases hd : decS b with
  | some m =>
    obtain ⟨h1, h2, h3, h4⟩ := (decS_iff b m).1 hd
    have := hearS_encS m h1 h3 h4
    rw [h2] at this
    rw [this]
    simp only [Option.bind_some]
    rw [if_pos ⟨(rightS_iff m).2 h1, h2⟩]
  | none =>
    cases hh : hearS b with
    | none => rfl
    | some m =>
      simp only [Option.bind_some]
      split
      · rename_i hr
        obtain ⟨k1, k2⟩ := hearS_keeps b m hh
        have := (decS_iff b m).2 ⟨(rightS_iff m).1 hr.1, hr.2, k1, k2⟩
        rw [hd] at this
        cases this
      · rfl
end Go.Proofs.Ytejbhjcopldekaa
