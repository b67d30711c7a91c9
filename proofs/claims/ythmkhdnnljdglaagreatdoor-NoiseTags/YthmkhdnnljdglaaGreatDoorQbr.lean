import Derived.Test.YthmkhdnnljdglaaGreatDoorQbo
namespace Go.Proofs.YthmkhdnnljdglaaGreatDoor
set_option linter.unusedVariables false
set_option maxRecDepth 100000
open Go.RowKit
theorem changed_no (key nonce ad b:List UInt8) (k:Nat) (x:UInt8) (h1:b.length ≤ k) (h2:k < b.length + 16) (hx:x ≠ at8 (sealB key nonce ad b) k):¬ Sealed key nonce ad ((sealB key nonce ad b).set k x):=by
 intro hs
 have hl:=sealB_length key nonce ad b
 have h3:=hs.2
 rw [List.length_set,hl,Nat.add_sub_cancel,List.take_set_of_le h1,sealB_take] at h3
 have h4:at8 (((sealB key nonce ad b).set k x).drop b.length) (k - b.length) = at8 (aeadTag key nonce ad (stm key 1#32 nonce b)) (k - b.length):=by rw [h3]
 rw [← sealB_drop] at h4
 have e1:∀ L:List UInt8,at8 (L.drop b.length) (k - b.length) = at8 L k:=fun L => by
  simp [at8,show b.length + (k - b.length) = k by omega]
 rw [e1,e1] at h4
 have e2:at8 ((sealB key nonce ad b).set k x) k = x:=by simp [at8,show k < (sealB key nonce ad b).length by omega]
 rw [e2] at h4
 exact hx h4
theorem xor_other (x y:UInt8) (h:y ≠ 0):x ^^^ y ≠ x:=by
 intro e
 apply h
 have h2:x ^^^ (x ^^^ y) = x ^^^ x:=by rw [e]
 rwa [← UInt8.xor_assoc,UInt8.xor_self,UInt8.zero_xor] at h2
theorem u8_of9 (a:Int) (h:(Lit.int .u8 a).wf = true):∃ y:UInt8,a = (y.toNat:Int):=by
 have hb:0 ≤ a ∧ a ≤ 255:=by simpa [Lit.wf,IntKind.min,IntKind.max,IntKind.signed,IntKind.bits] using h
 exact ⟨UInt8.ofNat a.toNat,by rw [UInt8.toNat_ofNat'];omega⟩
def turnB (l:List UInt8) (k:Nat) (y:UInt8):List UInt8:=l.set k (at8 l k ^^^ y)
theorem turnB_length (l:List UInt8) (k:Nat) (y:UInt8):(turnB l k y).length = l.length:=by simp [turnB]
theorem turnB_zero (l:List UInt8) (k:Nat):turnB l k 0 = l:=by
 unfold turnB
 rw [UInt8.xor_zero]
 apply List.ext_getElem
 ·simp
 ·intro i h1 h2
  rw [List.getElem_set]
  by_cases e:k = i
  ·subst e;rw [if_pos rfl,at8_get l k h2]
  ·rw [if_neg e]
theorem turnB_take (l:List UInt8) (k n:Nat) (y:UInt8) (h:n ≤ k):(turnB l k y).take n = l.take n:=by
 unfold turnB
 rw [List.take_set_of_le h]
theorem turnB_drop (l:List UInt8) (k n:Nat) (y:UInt8) (h:n ≤ k):(turnB l k y).drop n = turnB (l.drop n) (k - n) y:=by
 unfold turnB
 have e:at8 (l.drop n) (k - n) = at8 l k:=by simp [at8,show n + (k - n) = k by omega]
 rw [e,List.drop_set,if_neg (by omega)]
namespace MS
theorem err_turned (m:MS) (u b:List UInt8) (k:Nat) (y:UInt8) (hk:k = b.length + 15):(m.key u).err (turnB ((m.key u).out b) k y) = if y = 0 then 0 else 3:=by
 by_cases hy:y = 0
 ·rw [if_pos hy,hy,turnB_zero]
  exact (open_seal (m.key u) b (key_n m u)).2.1
 ·rw [if_neg hy]
  have hl:¬ (0:Nat) = lastN:=by decide
  have e1:(m.key u).out b = sealB (der2 m.C u) (nonceB 0) m.H b:=by
   show sOut (der2 m.C u) true 0 m.H b = _
   unfold sOut
   rw [if_neg (by decide),if_neg hl]
  have e2:∀ q,(m.key u).err q = if sealedB (der2 m.C u) (nonceB 0) m.H q = true then 0 else 3:=fun q => by
   show oErr (der2 m.C u) true 0 m.H q = _
   unfold oErr
   rw [if_neg (by decide),if_neg hl]
  rw [e2,e1,if_neg]
  intro h
  rw [sealedB_iff] at h
  exact changed_no _ _ _ b k _ (by omega) (by omega) (xor_other _ _ hy) h
end MS
namespace NS
theorem hear_parts (name pro own other once one t:List UInt8) :
  h2 (answer name pro other one) (agX name pro own other once t) = f2 (begin_ name pro own (pubB other) once) ∧ (agX name pro own other once t).drop 80 = (f2 (begin_ name pro own (pubB other) once)).out t:=by
 obtain ⟨a,ha⟩:∃ a,begin_ name pro own (pubB other) once = a:=⟨_,rfl⟩
 have hao:a.own = own ∧ a.once = once ∧ a.S = pubB other:=by rw [← ha];exact ⟨rfl,rfl,rfl⟩
 have hbo:(answer name pro other one).own = other ∧ (answer name pro other one).M = a.M:=by rw [← ha];exact ⟨rfl,rfl⟩
 obtain ⟨b,hb⟩:∃ b,answer name pro other one = b:=⟨_,rfl⟩
 rw [hb] at hbo
 have p1:=pubB_length once
 have p2:((f1 a).out (pubB own)).length = 48:=by rw [f1,key_out_len,pubB_length]
 have hX:agX name pro own other once t = pubB once ++ (f1 a).out (pubB own) ++ (f2 a).out t:=by
  unfold agX firstOut
  rw [ha,hao.1,hao.2.1]
 rw [hX,ha,hb]
 have e1:hR (pubB once ++ (f1 a).out (pubB own) ++ (f2 a).out t) = pubB once:=by
  unfold hR
  rw [List.append_assoc,List.take_left' p1]
 have e2:hB (pubB once ++ (f1 a).out (pubB own) ++ (f2 a).out t) = (f1 a).out (pubB own):=by
  unfold hB
  rw [List.append_assoc,List.drop_left' p1,List.take_left' p2]
 have m1:h1 b (pubB once ++ (f1 a).out (pubB own) ++ (f2 a).out t) = f1 a:=by
  unfold h1
  rw [e1,hbo.1,hbo.2]
  unfold f1
  rw [hao.2.1,hao.2.2,sec_agree other once]
 obtain ⟨o1,o2,o3⟩:=MS.open_seal (f1 a) (pubB own) (MS.key_n _ _)
 have s1:hS b (pubB once ++ (f1 a).out (pubB own) ++ (f2 a).out t) = pubB own:=by
  unfold hS
  rw [m1,e2,o1]
 refine ⟨?_,List.drop_left' (by rw [List.length_append,p1,p2])⟩
 unfold h2
 rw [m1,e2,o3,s1,hbo.1]
 unfold f2
 rw [hao.1,hao.2.2,sec_agree other own]
theorem hear_turned (name pro own other once one t:List UInt8) (y:UInt8):hearErr (answer name pro other one) (turnB (agX name pro own other once t) (t.length + 95) y) = if y = 0 then 0 else 3:=by
 obtain ⟨g1,g2⟩:=hear_parts name pro own other once one t
 have AG:=agreed name pro own other once one t t
 have h0:=AG.e2
 obtain ⟨X,hX⟩:∃ X,agX name pro own other once t = X:=⟨_,rfl⟩
 have hl:=AG.l1
 rw [hX] at g1 g2 h0 hl ⊢
 obtain ⟨b,hb⟩:∃ b,answer name pro other one = b:=⟨_,rfl⟩
 have hb2:b.starts = false ∧ b.st = 0:=by rw [← hb];exact ⟨rfl,rfl⟩
 rw [hb] at g1 h0 ⊢
 have eR:hR (turnB X (t.length + 95) y) = hR X:=turnB_take X _ 32 y (by omega)
 have eB:hB (turnB X (t.length + 95) y) = hB X:=by
  unfold hB
  rw [turnB_drop X _ 32 y (by omega),turnB_take _ _ 48 y (by omega)]
 have e1:h1 b (turnB X (t.length + 95) y) = h1 b X:=by unfold h1;rw [eR]
 have eS:hS b (turnB X (t.length + 95) y) = hS b X:=by unfold hS;rw [e1,eB]
 have e2:h2 b (turnB X (t.length + 95) y) = h2 b X:=by unfold h2;rw [e1,eB,eS]
 unfold hearErr at h0 ⊢
 rw [if_pos hb2] at h0 ⊢
 rw [if_neg (by omega)] at h0
 rw [if_neg (by rw [turnB_length];omega),eR,e1,eB,eS,e2,turnB_drop X _ 80 y (by omega)]
 by_cases c1:¬ ok b.own (hR X)
 ·rw [if_pos c1] at h0;cases h0
 rw [if_neg c1] at h0 ⊢
 by_cases c2:(h1 b X).err (hB X) ≠ 0
 ·rw [if_pos c2] at h0;exact absurd h0 c2
 rw [if_neg c2] at h0 ⊢
 by_cases c3:¬ ok b.own (hS b X)
 ·rw [if_pos c3] at h0;cases h0
 rw [if_neg c3,g1,g2,show t.length + 95 - 80 = t.length + 15 by omega]
 unfold f2
 exact MS.err_turned _ _ t _ y rfl
theorem done_turned (M:MS) (own other once one t:List UInt8) (y:UInt8) :
  doneErr ⟨M,own,once,[],pubB other,true,1⟩ (turnB (secondOut ⟨M,other,one,pubB once,pubB own,false,1⟩ t) (t.length + 47) y) = if y = 0 then 0 else 3:=by
 obtain ⟨k1,k2,k3,k4,k5,k6,k7⟩:=done_second M own other once one t
 obtain ⟨a,ha⟩:∃ a:NS,(⟨M,own,once,[],pubB other,true,1⟩:NS) = a:=⟨_,rfl⟩
 obtain ⟨b,hb⟩:∃ b:NS,(⟨M,other,one,pubB once,pubB own,false,1⟩:NS) = b:=⟨_,rfl⟩
 have p1:=pubB_length one
 have hd:(secondOut b t).drop 32 = (s1 b).out t:=by
  unfold secondOut
  rw [← hb]
  exact List.drop_left' p1
 have hr:hR (secondOut b t) = pubB one:=by
  unfold hR secondOut
  rw [← hb]
  exact List.take_left' p1
 have hm:d1 a (secondOut b t) = s1 b:=by
  unfold d1 s1
  rw [hr,← ha,← hb]
  show ((M.hash (pubB one)).key (secB once (pubB one))).key (secB own (pubB one)) = ((M.hash (pubB one)).key (secB one (pubB once))).key (secB one (pubB own))
  rw [sec_agree once one,sec_agree own one]
 rw [ha,hb] at k2 ⊢
 rw [hb] at k7
 have ha2:a.starts = true ∧ a.st = 1:=by rw [← ha];exact ⟨rfl,rfl⟩
 obtain ⟨Z,hZ⟩:∃ Z,secondOut b t = Z:=⟨_,rfl⟩
 rw [hZ] at hd hr hm k2 k7 ⊢
 have eR:hR (turnB Z (t.length + 47) y) = hR Z:=turnB_take Z _ 32 y (by omega)
 have e1:d1 a (turnB Z (t.length + 47) y) = d1 a Z:=by unfold d1;rw [eR]
 unfold doneErr at k2 ⊢
 rw [if_pos ha2] at k2 ⊢
 rw [if_neg (by omega)] at k2
 rw [if_neg (by rw [turnB_length];omega),eR,e1,turnB_drop Z _ 32 y (by omega)]
 by_cases c1:¬ (ok a.once (hR Z) ∧ ok a.own (hR Z))
 ·rw [if_pos c1] at k2;cases k2
 rw [if_neg c1,hm,hd,show t.length + 47 - 32 = t.length + 15 by omega]
 unfold s1
 exact MS.err_turned _ _ t _ y rfl
end NS
end Go.Proofs.YthmkhdnnljdglaaGreatDoor
