/- A message of where one is seen: when it is right, its bytes, and how bytes are read (stage 12). -/
import Derived.Test.YtejbhjcopldekaaTools
import Derived.Test.YtejbhjcopldekaaMath1
namespace Go.Proofs.Ytejbhjcopldekaa
set_option linter.unusedVariables false

/-- A message. -/
structure SM where
  cls : Int
  id : List UInt8
  host : Nat
  port : Int
  soft : List UInt8
  code : Int
  reason : List UInt8
  unk : List Int
def sKnown (n : Int) : Bool := decide (n = 1 ∨ n = 6 ∨ n = 8 ∨ n = 9 ∨ n = 10 ∨ n = 20 ∨ n = 21 ∨ n = 32)
/-- One of the numbers is right. -/
def sNum (cls n : Int) : Bool := decide (0 ≤ n ∧ n ≤ 65535 ∧ (cls ≠ 3 → n ≤ 32767 ∧ sKnown n = false))
def rightS (m : SM) : Bool :=
  decide ((m.cls = 0 ∨ m.cls = 2 ∨ m.cls = 3) ∧ (m.cls ≠ 2 → m.host = 0 ∧ m.port = 0) ∧ 0 ≤ m.port ∧ m.port ≤ 65535 ∧ (m.cls ≠ 3 → m.code = 0 ∧ m.reason = []) ∧ (m.cls = 3 → 300 ≤ m.code ∧ m.code ≤ 699) ∧
    m.soft.length ≤ 100 ∧ m.reason.length ≤ 100 ∧ m.unk.length ≤ 20 ∧ (m.cls = 3 → m.code ≠ 420 → m.unk = [])) && m.unk.all (sNum m.cls)
structure SM.Right (m : SM) : Prop where
  cls : m.cls = 0 ∨ m.cls = 2 ∨ m.cls = 3
  mapped : m.cls ≠ 2 → m.host = 0 ∧ m.port = 0
  p0 : 0 ≤ m.port
  p1 : m.port ≤ 65535
  none : m.cls ≠ 3 → m.code = 0 ∧ m.reason = []
  code : m.cls = 3 → 300 ≤ m.code ∧ m.code ≤ 699
  soft : m.soft.length ≤ 100
  reason : m.reason.length ≤ 100
  unk : m.unk.length ≤ 20
  only : m.cls = 3 → m.code ≠ 420 → m.unk = []
  nums : ∀ n ∈ m.unk, 0 ≤ n ∧ n ≤ 65535 ∧ (m.cls ≠ 3 → n ≤ 32767 ∧ sKnown n = false)
theorem rightS_iff (m : SM) : rightS m = true ↔ m.Right := by
  unfold rightS
  rw [Bool.and_eq_true, decide_eq_true_iff, List.all_eq_true]
  constructor
  · rintro ⟨⟨h1, h2, h3, h4, h5, h6, h7, h8, h9, h10⟩, h11⟩
    exact ⟨h1, h2, h3, h4, h5, h6, h7, h8, h9, h10, fun n hn => of_decide_eq_true (h11 n hn)⟩
  · intro h
    exact ⟨⟨h.cls, h.mapped, h.p0, h.p1, h.none, h.code, h.soft, h.reason, h.unk, h.only⟩, fun n hn => decide_eq_true (h.nums n hn)⟩

/-- 0s up to a multiple of four. -/
def pad4 (n : Nat) : List UInt8 := List.replicate ((4 - n % 4) % 4) 0
/-- An attribute. -/
def sAttr (p : Nat × List UInt8) : List UInt8 := putB 2 p.1 true ++ putB 2 p.2.length true ++ p.2 ++ pad4 p.2.length
def sUnk (l : List Int) : List UInt8 := l.flatMap fun n => putB 2 n.toNat true
/-- The attributes ahead of the last one. -/
def SM.attrs (m : SM) : List (Nat × List UInt8) :=
  (if m.cls = 2 then [(32, [0, 1] ++ putB 2 (m.port.toNat ^^^ 8466) true ++ putB 4 (m.host ^^^ 554869826) true)] else []) ++
  (if m.cls = 3 then [(9, [0, 0, UInt8.ofNat (m.code.toNat / 100), UInt8.ofNat (m.code.toNat % 100)] ++ m.reason)] else []) ++
  (if m.cls = 3 ∧ m.unk ≠ [] then [(10, sUnk m.unk)] else []) ++
  (if m.cls = 3 then [] else m.unk.map fun n => (n.toNat, [])) ++
  (if m.soft ≠ [] then [(32802, m.soft)] else [])
def sBody (l : List (Nat × List UInt8)) : List UInt8 := l.flatMap sAttr
def sKind (c : Int) : Nat := if c = 2 then 257 else if c = 3 then 273 else 1
def SM.out (m : SM) : List UInt8 := putB 2 (sKind m.cls) true ++ putB 2 ((sBody m.attrs).length + 8) true ++ putB 4 554869826 true ++ m.id ++ sBody m.attrs
/-- The last attribute behind the others. -/
def sFin (o : List UInt8) : List UInt8 := o ++ sAttr (32808, putB 4 ((crcOf o).toNat ^^^ 1398035790) true)
def encS (m : SM) : List UInt8 := sFin m.out

theorem pad4_length (n : Nat) : 4 + n + (pad4 n).length = 4 + (n + 3) / 4 * 4 := by
  unfold pad4
  rw [List.length_replicate]
  omega
theorem sAttr_length (p : Nat × List UInt8) : (sAttr p).length = 4 + (p.2.length + 3) / 4 * 4 := by
  unfold sAttr
  rw [List.length_append, List.length_append, List.length_append, putB_length, putB_length, ← pad4_length p.2.length]
theorem sAttr_four (p : Nat × List UInt8) : (sAttr p).length % 4 = 0 := by rw [sAttr_length]; omega
theorem sFin_length (o : List UInt8) : (sFin o).length = o.length + 8 := by
  unfold sFin
  rw [List.length_append, sAttr_length, putB_length]
/-- The bytes but the last eight tell all. -/
theorem sFin_back (o : List UInt8) : sFin ((sFin o).take ((sFin o).length - 8)) = sFin o := by
  have e : (sFin o).take ((sFin o).length - 8) = o := by
    rw [sFin_length, Nat.add_sub_cancel]
    unfold sFin
    rw [List.take_left]
  rw [e]

theorem cut_mid (p x r : List UInt8) : cutB (p ++ x ++ r) p.length x.length = x := by
  unfold cutB
  rw [List.append_assoc, List.drop_left, List.take_left]
theorem getV_mid (p r : List UInt8) (sz n : Nat) : getV (p ++ putB sz n true ++ r) true p.length sz = n % 256 ^ sz := by
  have h := cut_mid p (putB sz n true) r
  rw [putB_length] at h
  rw [getV, h, valB_putB]
theorem getV_at (b p r : List UInt8) (sz n at_ : Nat) (hb : b = p ++ putB sz n true ++ r) (ha : p.length = at_) : getV b true at_ sz = n % 256 ^ sz := by
  rw [hb, ← ha, getV_mid]
theorem cut_at (b p x r : List UInt8) (at_ sz : Nat) (hb : b = p ++ x ++ r) (ha : p.length = at_) (hx : x.length = sz) : cutB b at_ sz = x := by
  rw [hb, ← ha, ← hx, cut_mid]

/-- A number of two bytes. -/
def sTwo (b : List UInt8) (at_ : Nat) : Nat := getV b true at_ 2
def sTwos (d : List UInt8) (k : Nat) : List Int := (List.range k).map fun i => ((sTwo d (2 * i) : Nat) : Int)
/-- What an attribute tells. -/
def SM.step (m : SM) (p : Nat × List UInt8) : SM :=
  if p.1 = 32 ∧ m.cls = 2 ∧ p.2.length = 8 then { m with host := getV p.2 true 4 4 ^^^ 554869826, port := ((sTwo p.2 2 ^^^ 8466 : Nat) : Int) }
  else if p.1 = 9 ∧ m.cls = 3 ∧ 4 ≤ p.2.length then { m with code := (at8 p.2 2).toNat * 100 + (at8 p.2 3).toNat, reason := p.2.drop 4 }
  else if p.1 = 10 ∧ m.cls = 3 then { m with unk := m.unk ++ sTwos p.2 (p.2.length / 2) }
  else if p.1 = 32802 then { m with soft := p.2 }
  else { m with unk := m.unk ++ [(p.1 : Int)] }
def sParse (b : List UInt8) : Nat → Nat → SM → Option SM
  | 0, _, _ => none
  | f + 1, at_, m => if at_ + 12 ≤ b.length then (if b.length < at_ + 4 + sTwo b (at_ + 2) then none else sParse b f (at_ + 4 + (sTwo b (at_ + 2) + 3) / 4 * 4) (m.step (sTwo b at_, cutB b (at_ + 4) (sTwo b (at_ + 2))))) else some m
def sClass (n : Nat) : Option Int := if n = 1 then some 0 else if n = 257 then some 2 else if n = 273 then some 3 else none
def sZero (c : Int) (id : List UInt8) : SM := ⟨c, id, 0, 0, [], 0, [], []⟩
def decS (b : List UInt8) : Option SM :=
  if b.length < 28 then none
  else (sClass (sTwo b 0)).bind fun c => (sParse b b.length 20 (sZero c (cutB b 8 12))).bind fun m => if rightS m = true ∧ encS m = b then some m else none

/-- Attributes are read as they were told. -/
theorem parse_attrs (last : List UInt8) (hl : last.length = 8) : ∀ (A : List (Nat × List UInt8)) (b pre : List UInt8) (f : Nat) (m : SM), (∀ p ∈ A, p.1 < 65536 ∧ p.2.length < 65536) → b = pre ++ sBody A ++ last → A.length < f →
    sParse b f pre.length m = some (A.foldl SM.step m)
  | [], b, pre, f + 1, m, _, hb, hf => by
    have hbl : b.length = pre.length + 8 := by rw [hb]; simp [sBody, hl]
    rw [sParse, if_neg (by omega)]
    rfl
  | p :: A, b, pre, f + 1, m, hA, hb, hf => by
    obtain ⟨h1, h2⟩ := hA p (by simp)
    have e0 : sBody (p :: A) = sAttr p ++ sBody A := by simp [sBody]
    have hb' : b = (pre ++ sAttr p) ++ sBody A ++ last := by rw [hb, e0]; simp
    have ha := sAttr_length p
    have hbl : b.length = pre.length + (sAttr p).length + (sBody A).length + 8 := by rw [hb']; simp [hl]; omega
    have k1 : sTwo b pre.length = p.1 := by
      have := getV_at b pre (putB 2 p.2.length true ++ p.2 ++ pad4 p.2.length ++ sBody A ++ last) 2 p.1 pre.length (by rw [hb', sAttr]; simp) rfl
      rw [sTwo, this]
      exact Nat.mod_eq_of_lt h1
    have k2 : sTwo b (pre.length + 2) = p.2.length := by
      have := getV_at b (pre ++ putB 2 p.1 true) (p.2 ++ pad4 p.2.length ++ sBody A ++ last) 2 p.2.length (pre.length + 2) (by rw [hb', sAttr]; simp) (by rw [List.length_append, putB_length])
      rw [sTwo, this]
      exact Nat.mod_eq_of_lt h2
    have k3 : cutB b (pre.length + 4) p.2.length = p.2 :=
      cut_at b (pre ++ putB 2 p.1 true ++ putB 2 p.2.length true) p.2 (pad4 p.2.length ++ sBody A ++ last) (pre.length + 4) p.2.length (by rw [hb', sAttr]; simp) (by rw [List.length_append, List.length_append, putB_length, putB_length]) rfl
    rw [sParse, if_pos (by omega), k1, k2, if_neg (by omega), k3]
    have := parse_attrs last hl A b (pre ++ sAttr p) f (m.step p) (fun q hq => hA q (by simp [hq])) hb' (by simp at hf; omega)
    rw [List.length_append, ha, ← Nat.add_assoc] at this
    exact this
end Go.Proofs.Ytejbhjcopldekaa
