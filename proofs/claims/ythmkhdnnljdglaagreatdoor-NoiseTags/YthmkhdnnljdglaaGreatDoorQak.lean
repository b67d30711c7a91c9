import Derived.Test.YthmkhdnnljdglaaGreatDoorQah
import Derived.Test.YthmkhdnnljdglaaGreatDoorQab
import Derived.Test.YthmkhdnnljdglaaGreatDoorQaj
namespace Go.Proofs.YthmkhdnnljdglaaGreatDoor
set_option linter.unusedVariables false
set_option maxRecDepth 100000
open Go.RowKit
def iv (x:Nat):Value:=.int .i64 (x:Int)
structure Two (w:World) (a1:Option Addr) (n1 c1:Nat) (lo:List Nat) (a2:Option Addr) (n2 c2:Nat) (hi:List Nat) (wr:World):Prop where
 s1:Seg wr 3 a1 n1 c1 (lo.map iv)
 s2:Seg wr 3 a2 n2 c2 (hi.map iv)
 ne:∀ j,blockOf a1 = some j → blockOf a2 ≠ some j
 b1:∀ j,blockOf a1 = some j → w.heap.size ≤ j
 b2:∀ j,blockOf a2 = some j → w.heap.size ≤ j
 bel:Below w.heap.size w wr
theorem Two.swap {w wr:World} {a1 a2:Option Addr} {n1 c1 n2 c2:Nat} {lo hi:List Nat} (h:Two w a1 n1 c1 lo a2 n2 c2 hi wr):Two w a2 n2 c2 hi a1 n1 c1 lo wr:=
 ⟨h.s2,h.s1,fun j h2 h1 => h.ne j h1 h2,h.b2,h.b1,h.bel⟩
theorem Two.new (w:World):Two w (some ⟨w.heap.size,0,none⟩) 0 0 [] (some ⟨w.heap.size + 1,0,none⟩) 0 0 [] ((w.alloc (.cells #[] 3)).alloc (.cells #[] 3)):=by
 refine ⟨⟨rfl,.inr ⟨w.heap.size,0,#[],rfl,?_,by simp,Nat.le_refl _,fun i hi => by omega⟩⟩,⟨rfl,.inr ⟨w.heap.size + 1,0,#[],rfl,?_,by simp,Nat.le_refl _,fun i hi => by omega⟩⟩,?_,?_,?_,((Below.refl _ _).alloc (Nat.le_refl _) _).alloc (by simp) _⟩
 ·rw [Below.heap_alloc _ _ _ (by simp)];exact heap_alloc_new w _
 ·have:=heap_alloc_new (w.alloc (.cells #[] 3)) (.cells #[] 3)
  rwa [World.size_alloc] at this
 ·intro j h1 h2
  simp [blockOf] at h1 h2
  omega
 ·intro j h1;simp [blockOf] at h1;omega
 ·intro j h1;simp [blockOf] at h1;omega
def clM (p q:Nat) (key:List UInt8):List UInt8:=
 (List.range 16).map fun i => if i % 4 = 3 ∧ i < p then UInt8.ofNat ((at8 key i).toNat % 16) else if (i % 4 = 0 ∧ i ≠ 0) ∧ i < q then UInt8.ofNat ((at8 key i).toNat / 4 * 4) else at8 key i
theorem clM_length (p q:Nat) (key:List UInt8):(clM p q key).length = 16:=by simp [clM]
theorem clM_none (key:List UInt8) (h:key.length = 32):clM 3 0 key = key.take 16:=by
 apply List.ext_getElem
 ·simp [clM,h]
 ·intro i h1 h2
  have hi:i < 16:=by simpa [clM] using h1
  simp only [clM,List.getElem_map,List.getElem_range,List.getElem_take]
  rw [if_neg (by omega),if_neg (by omega),at8_get _ _ (by omega)]
theorem clM_all (key:List UInt8):clM 19 16 key = clampB key:=by
 apply List.ext_getElem
 ·simp [clM,clampB]
 ·intro i h1 h2
  have hi:i < 16:=by simpa [clM] using h1
  simp only [clM,clampB,clamp1,List.getElem_map,List.getElem_range]
  by_cases h3:i % 4 = 3
  ·rw [if_pos ⟨h3,by omega⟩,if_pos h3]
  ·rw [if_neg (by omega),if_neg h3]
   by_cases h4:i % 4 = 0 ∧ i ≠ 0
   ·rw [if_pos ⟨h4,by omega⟩,if_pos h4]
   ·rw [if_neg (fun h => h4 h.1),if_neg h4]
theorem clM_at (p q:Nat) (key:List UInt8) (i:Nat) (h:i < 16):at8 (clM p q key) i = if i % 4 = 3 ∧ i < p then UInt8.ofNat ((at8 key i).toNat % 16) else if (i % 4 = 0 ∧ i ≠ 0) ∧ i < q then UInt8.ofNat ((at8 key i).toNat / 4 * 4) else at8 key i:=by
 rw [at8_get _ _ (by rw [clM_length];exact h)]
 simp [clM]
theorem clM_set1 (key:List UInt8) (j:Nat) (h:j < 4):(clM (3 + 4 * j) 0 key).set (3 + 4 * j) (UInt8.ofNat ((at8 key (3 + 4 * j)).toNat % 16)) = clM (3 + 4 * (j + 1)) 0 key:=by
 apply List.ext_getElem
 ·simp [clM]
 ·intro i h1 h2
  have hi:i < 16:=by simpa [clM] using h2
  rw [List.getElem_set]
  by_cases e:3 + 4 * j = i
  ·subst e
   rw [if_pos rfl]
   simp only [clM,List.getElem_map,List.getElem_range]
   rw [if_pos (by omega)]
  ·rw [if_neg e]
   simp only [clM,List.getElem_map,List.getElem_range]
   by_cases h3:i % 4 = 3 ∧ i < 3 + 4 * j
   ·rw [if_pos h3,if_pos (by omega)]
   ·rw [if_neg h3,if_neg (by omega),if_neg (by omega)]
theorem clM_set2 (key:List UInt8) (j:Nat) (h:j < 3):(clM 19 (4 + 4 * j) key).set (4 + 4 * j) (UInt8.ofNat ((at8 key (4 + 4 * j)).toNat / 4 * 4)) = clM 19 (4 + 4 * (j + 1)) key:=by
 apply List.ext_getElem
 ·simp [clM]
 ·intro i h1 h2
  have hi:i < 16:=by simpa [clM] using h2
  rw [List.getElem_set]
  by_cases e:4 + 4 * j = i
  ·subst e
   rw [if_pos rfl]
   simp only [clM,List.getElem_map,List.getElem_range]
   rw [if_neg (by omega),if_pos (by omega)]
  ·rw [if_neg e]
   simp only [clM,List.getElem_map,List.getElem_range]
   by_cases h3:i % 4 = 3 ∧ i < 19
   ·rw [if_pos h3,if_pos h3]
   ·rw [if_neg h3,if_neg h3]
    by_cases h4:(i % 4 = 0 ∧ i ≠ 0) ∧ i < 4 + 4 * j
    ·rw [if_pos h4,if_pos (by omega)]
    ·rw [if_neg h4,if_neg (by omega)]
theorem pad_to (l:List UInt8) (j:Nat):l ++ List.replicate (j + 1) 0 = l ++ List.replicate j 0 ++ [0]:=by
 rw [List.append_assoc,List.replicate_succ']
end Go.Proofs.YthmkhdnnljdglaaGreatDoor
