import Derived.Test.YthmkhdnnljdglaaGreatDoorRows
import Derived.Test.YthmkhdnnljdglaaGreatDoorQaa
import Derived.WalkKit
import Derived.WalkSpells
import Derived.WalkLawsBesides
import Derived.Laws.CopyOwn
import Derived.Laws.BytesArg
import Derived.Test.YthmkhdnnljdglaaGreatDoorQac
import Derived.Test.YthmkhdnnljdglaaGreatDoorQab
namespace Go.Proofs.YthmkhdnnljdglaaGreatDoor
set_option maxRecDepth 100000
open Go.RowKit
theorem ret_int {k:IntKind} {a b:Int} (h:a = b):Ending.returned (.int k a) = .returned (.int k b):=by rw [h]
set_option maxHeartbeats 400000 in
set_option maxRecDepth 100000 in
theorem rotl_any (x:BitVec 32) (n:Int) (w:World) :
  Calls Tryz.prog 177 #[.int .u32 (x.toNat:Int),.int .i64 n] w fun e w' => e = .returned (.int .u32 ((rotl x n).toNat:Int)) ∧ w' = w:=by
 have h1:=and31 n
 have h2:0 ≤ n % 32:=by omega
 have h3:n % 32 ≤ 31:=by omega
 have H:=rotl_val x n
 have HH:Hid (bits .or .u32 ((x.toNat:Int) * 2 ^ (n % 32).toNat % 4294967296) ((x.toNat:Int) / 2 ^ (32 - n % 32).toNat) = ((rotl x n).toNat:Int)):=H
 clear H
 go_enter Tryz.func177,Tryz.ntmps177
 go_wp2
 go_ret
 exact ⟨ret_int HH.out,rfl⟩
set_option maxHeartbeats 400000 in
set_option maxRecDepth 100000 in
theorem rot_any (x:BitVec 32) (n:Int) (w:World) :
  Calls Tryz.prog 174 #[.int .u32 (x.toNat:Int),.int .i64 n] w fun e w' => e = .returned (.int .u32 ((rotl x n).toNat:Int)) ∧ w' = w:=by
 go_enter Tryz.func174,Tryz.ntmps174
 go_wp2_with (go_at_call 177;refine (rotl_any _ _ _).mono ?_;rintro e w' ⟨rfl,rfl⟩)
 go_ret
 exact ⟨rfl,rfl⟩
theorem ret_two {k:IntKind} {a b:Int} {v:Value} (h:a = b):Ending.returned (.tuple #[.int k a,v]) = .returned (.tuple #[.int k b,v]):=by rw [h]
set_option maxHeartbeats 400000 in
set_option maxRecDepth 100000 in
theorem shift_any (i size:Int) (big:Bool) (w:World) (h0:0 ≤ i) (h1:i < size) (h2:size ≤ 8) :
  Calls Tryz.prog 116 #[.int .i64 i,.int .i64 size,.bool big] w fun e w' => e = .returned (.int .i64 (8 * posI big size i)) ∧ w' = w:=by
 cases big
 all_goals
  go_enter Tryz.func116,Tryz.ntmps116
  go_wp2
  go_ret
  exact ⟨rfl,rfl⟩
set_option maxHeartbeats 400000 in
set_option maxRecDepth 100000 in
theorem get_yes (b off len cap:Nat) (at_ size:Nat) (big:Bool) (l:List UInt8) (w:World) (hm:cap ≤ maxLen) (hlc:len ≤ cap)
  (hB:Byt w (some ⟨b,off,none⟩) len l) (h1:1 ≤ size) (h8:size ≤ 8) (h:at_ + size ≤ len) :
  Calls Tryz.prog 83 #[.slice (some ⟨b,off,none⟩) len cap,.int .i64 at_,.int .i64 size,.bool big] w fun e w' => e = .returned (.tuple #[.int .u64 (getV l big at_ size:Int),.bool true]) ∧ w' = w:=by
 unfold maxLen at hm
 obtain ⟨hl,hB⟩:=hB
 have g1:¬ (size:Int) < 1:=by omega
 have g2:¬ (8:Int) < size:=by omega
 have g3:¬ (at_:Int) < 0:=by omega
 have g4:¬ (len:Int) - size < at_:=by omega
 go_enter Tryz.func83,Tryz.ntmps83
 go_wp2
 go_loop [10,38] (fun n i => ∃ k:Nat,k ≤ size ∧ i = .int .i64 k ∧ n = .int .u64 (accV (cutB l at_ size) big k:Int)) (fun _ i => size - (intOf i).toNat)
 case atStart => exact ⟨0,Nat.zero_le _,rfl,by rw [accV_zero];rfl⟩
 case round =>
  obtain ⟨k,hk,rfl,rfl⟩:=hrel
  by_cases hlt:k < size
  ·rcases hB with h0 | ⟨b',off',e,hc⟩
   ·omega
   ·cases e
    have hck:=hc (at_ + k) (by omega)
    rw [← Nat.add_assoc] at hck
    have hb:=at8_lt l (at_ + k)
    have hp:=posI_bound big size k (by omega) (by omega)
    obtain ⟨hp0,hp1⟩:=hp
    have HS:Hid (bits .or .u64 (accV (cutB l at_ size) big k:Int) (IntKind.u64.wrap (((at8 l (at_ + k)).toNat:Int) * 2 ^ (8 * posI big size k).toNat)) = (accV (cutB l at_ size) big (k + 1):Int)):=by
     have e1:=cutB_length l at_ size (by omega)
     have e:=get_step (cutB l at_ size) big k (by omega) (by omega)
     rw [e1,cutB_at l at_ size k hlt] at e
     show _ = _
     rw [IntKind.wrap_u64];exact e
    go_wp2_with fail
    refine (shift_any _ _ _ _ (by omega) (by omega) (by omega)).mono ?_
    rintro e w' ⟨rfl,rfl⟩
    go_wp2
    exact ⟨⟨k + 1,by omega,by go_num,by rw [HS.out]⟩,by simp [intOf];omega⟩
  ·have HE:Hid (accV (cutB l at_ size) big k = getV l big at_ size):=by
    have e1:=cutB_length l at_ size (by omega)
    have e2:k = (cutB l at_ size).length:=by omega
    show _ = _
    rw [e2,accV_all];rfl
   go_wp2
   go_ret2
   exact ⟨ret_two (by rw [HE.out]),rfl⟩
theorem Tryz.infoU8:(Tryz.prog.info? 5).map (fun i => (i.zero,i.size,i.bytes)) = some (some (.int .u8 0),1,1):=by kernel_rfl
theorem Tryz.info1U8:(Tryz.prog.info? 5).map (·.size) = some 1:=by kernel_rfl
def putTo (l:List UInt8) (sz n:Nat) (big:Bool) (k:Nat):List Value:=(l ++ (putB sz n big).take k).map bv
theorem putTo_succ (l:List UInt8) (sz n:Nat) (big:Bool) (k:Nat) (h:k < sz):putTo l sz n big (k + 1) = putTo l sz n big k ++ [bv (at8 (putB sz n big) k)]:=by
 unfold putTo
 rw [take_at _ _ (by rw [putB_length];exact h)];simp
theorem make_bytes (w:World) (n m:Nat) (h:n + m ≤ 2000000) :
  ∃ Z:List Value,Z.length = n + m ∧ (Instr.makeSlice 22 (.int .i64 (n:Int)) (.int .i64 ((n:Int) + (m:Int)))).run Tryz.prog w = .ok (.slice (some ⟨w.heap.size,0,none⟩) n (n + m)) (w.alloc (.cells Z.toArray 5)):=by
 obtain ⟨i0,hi,hz0,hz1,hz2⟩:=info_parts Tryz.infoU8
 have hr:=run_make (P:=Tryz.prog) w 22 5 i0 (.int .u8 0) Tryz.underlying22 hi hz0 .i64 .i64 (n:Int) ((n:Int) + (m:Int)) (by omega) (by omega) (by rw [hz2];omega) (by omega)
 have e1:((n:Int)).toNat = n:=by omega
 have e2:((n:Int) + (m:Int)).toNat = n + m:=by omega
 rw [e1,e2,hz1,Nat.mul_one] at hr
 exact ⟨(madeCells (Value.int .u8 0).cells (n + m)).toList,by simp [size_madeCells],by simpa using hr⟩
theorem copy_bytes (w:World) (a:Option Addr) (len cap m:Nat) (l:List UInt8) (hB:Byt w a len l) (Z:List Value) (hZ:Z.length = len + m) (hm:len + m ≤ maxLen) :
  ∃ w2,(Builtin.copy_ #[22,22] 3 #[.slice (some ⟨w.heap.size,0,none⟩) len (len + m),.slice a len cap]).run Tryz.prog (w.alloc (.cells Z.toArray 5)) = .ok (.int .i64 (len:Int)) w2 ∧
   w2.ownsRow w.heap.size 5 1 (.slice (some ⟨w.heap.size,0,none⟩) len (len + m)) len (l.map bv) ∧ Below w.heap.size w w2:=by
 have hl:=hB.1
 have hbel:Below w.heap.size w (w.alloc (.cells Z.toArray 5)):=(Below.refl _ _).alloc (Nat.le_refl _) _
 have hg:(w.alloc (.cells Z.toArray 5)).heap[w.heap.size]? = some (.cells Z.toArray 5 (0,0)):=heap_alloc_new w _
 by_cases h0:len = 0
 ·have hr:=run_copy_none (P:=Tryz.prog) (w.alloc (.cells Z.toArray 5)) 22 22 3 5 (some ⟨w.heap.size,0,none⟩) a len (len + m) len cap Tryz.underlying22 Tryz.info1U8 (by rw [h0];rfl)
  subst h0
  obtain rfl:l = []:=List.eq_nil_of_length_eq_zero hl
  exact ⟨_,hr,⟨by simp,.inr ⟨w.heap.size,0 + m,Z.toArray,rfl,Nat.le_refl _,hg,by omega,hm,by simpa using hZ,by simp⟩⟩,hbel⟩
 ·rcases hB.2 with h | ⟨b,off,rfl,hc⟩
  ·exact absurd h h0
  ·have hr:=run_copy_row Tryz.prog (w.alloc (.cells Z.toArray 5)) 22 22 3 5 w.heap.size 0 len (len + m) ⟨b,off,none⟩ len cap Z.toArray 5 (l.map bv) Tryz.underlying22 Tryz.info1U8 hg
    (by rw [List.length_map,hl];exact (Nat.min_self len).symm) ((hB.later hbel).cells _ rfl) (by simp;omega) (bv_oneCell l)
   have hr':=hr
   rw [List.length_map,hl] at hr'
   refine ⟨_,hr',?_,below_setRow hbel (Nat.le_refl _) _⟩
   ·refine ⟨by simp [hl],.inr ⟨w.heap.size,len + m,_,rfl,Nat.le_refl _,setRow_heap _ _ _ _ _ _ hg,by omega,hm,?_,?_⟩⟩
    ·simp;omega
    ·simp [hl]
set_option maxHeartbeats 400000 in
set_option maxRecDepth 100000 in
theorem put_any (a:Option Addr) (len cap:Nat) (size:Int) (n:Nat) (big:Bool) (l:List UInt8) (w:World) (hm:len ≤ 1000000)
  (hB:Byt w a len l) (sz:Nat) (hsz:(sz:Int) = min (max size 0) 8) :
  Calls Tryz.prog 91 #[.slice a len cap,.int .i64 size,.int .u64 (n:Int),.bool big] w fun e w' => ∃ g,e = .returned (.slice (some ⟨g,0,none⟩) (len + sz) (len + sz)) ∧ w.heap.size ≤ g ∧ Below w.heap.size w w' ∧ Byt w' (some ⟨g,0,none⟩) (len + sz) (l ++ putB sz n big):=by
 have hB':=hB
 obtain ⟨hl,hB⟩:=hB
 obtain ⟨mx,e1⟩:∃ mx:Int,(if size < 0 then (0:Int) else size) = mx:=⟨_,rfl⟩
 have e2:(if 8 < mx then (8:Int) else mx) = (sz:Int):=by rw [hsz,← e1];split <;> split <;> omega
 have hs8:sz ≤ 8:=by omega
 clear hsz
 go_enter Tryz.func91,Tryz.ntmps91
 obtain ⟨Z,hZl,hmk⟩:=make_bytes w len sz (by omega)
 obtain ⟨w2,hcp,hown2,hb2⟩:=copy_bytes w a len cap sz l hB' Z hZl (by unfold maxLen;omega)
 obtain ⟨i0,hi,hz0,hz1,hz2⟩:=info_parts Tryz.infoU8
 have hbd2:=hb2.size
 go_wp2
 go_loopw [9,25] (fun v i wr => ∃ k:Nat,k ≤ sz ∧ i = .int .i64 k ∧ v = .slice (some ⟨w.heap.size,0,none⟩) (len + k) (len + sz) ∧
   wr.ownsRow w.heap.size 5 1 (.slice (some ⟨w.heap.size,0,none⟩) (len + k) (len + sz)) (len + k) (putTo l sz n big k) ∧ Below w.heap.size w wr) (fun _ i _ => sz - (intOf i).toNat)
 case atStart => exact ⟨0,Nat.zero_le _,rfl,rfl,by simpa [putTo] using hown2,hb2⟩
 case round =>
  obtain ⟨k,hk,rfl,rfl,hown,hbel⟩:=hrel
  by_cases hlt:k < sz
  ·obtain ⟨hp0,hp1⟩:=posI_bound big sz k (by omega) (by omega)
   go_wp2_with fail
   refine (shift_any _ _ _ _ (by omega) (by omega) (by omega)).mono ?_
   rintro e w' ⟨rfl,rfl⟩
   go_wp2_with (first
    |(at_builtin;refine wpList_append_fits _ rfl (.tmp 28) (.tmp 36) 22 rfl w.heap.size 5 i0 1 Tryz.underlying22 hi hz1 w.heap.size (len + k) (len + sz) (putTo l sz n big k) rfl ?c0 ⟨w'.heap.size,0,none⟩ 1 1 [bv (at8 (putB sz n big) k)] rfl rfl ?c1 ?c2 ?c3 ?_))
   case c0 => exact hown.alloc _
   case c1 =>
    have hv:bv (at8 (putB sz n big) k) = .int .u8 ((n:Int) / 2 ^ (8 * posI big sz k).toNat % 256):=by unfold bv;rw [putB_at sz n big k hlt]
    rw [hv]
    exact cell_one_new _ _ _
   case c2 => exact bv_oneCell [at8 (putB sz n big) k]
   case c3 => omega
   intro w1 hown1 hgrow1
   have hb1:Below w.heap.size w w1:=((hbel.alloc hbel.size _).grown hgrow1 (by have:=hbel.size;simp;omega) (by intro j hj;cases hj;exact Nat.le_refl _))
   have H1:Hid (w1.ownsRow w.heap.size 5 1 (.slice (some ⟨w.heap.size,0,none⟩) (len + (k + 1)) (len + sz)) (len + (k + 1)) (putTo l sz n big (k + 1))):=by
    show World.ownsRow _ _ _ _ _ _ _
    rw [putTo_succ l sz n big k hlt];exact hown1
   clear hown1
   go_wp2
   exact ⟨⟨k + 1,by omega,by go_num,rfl,H1.out,hb1⟩,by simp [intOf];omega⟩
  ·go_wp2
   go_ret
   have ek:k = sz:=by omega
   subst ek
   refine ⟨w.heap.size,rfl,Nat.le_refl _,hbel,?_⟩
   have hf:=Byt.ofOwn (l:=l ++ (putB k n big).take k) hown
   rwa [List.take_of_length_le (by rw [putB_length];exact Nat.le_refl _)] at hf
def S (l:List UInt8):ByteArray:=⟨l.toArray⟩
theorem S_toList (l:List UInt8):(S l).toList = l:=by rw [ByteArray.toList_eq];rfl
theorem S_beq (l m:List UInt8):((S l).toList == (S m).toList) = decide (l = m):=by
 rw [S_toList,S_toList]
 by_cases h:l = m
 ·rw [h];simp
 ·simp [h]
theorem conv_bytes (w:World) (a:Option Addr) (len cap:Nat) (l:List UInt8) (hB:Byt w a len l) :
  (convert 22 9 (.slice a len cap)).run Tryz.prog w = .ok (.string (S l)) w:=by
 have hl:=hB.1
 rcases hB.2 with h0 | ⟨b,off,rfl,hc⟩
 ·have e:l = []:=List.eq_nil_of_length_eq_zero (by omega)
  subst e
  cases a with
  | none => exact run_convert_bytes_nil (P:=Tryz.prog) w 22 5 Tryz.underlying22 Tryz.underlying5 len cap 9 Tryz.underlying9
  | some x =>
   rw [run_convert_bytes_string w 22 9 5 _ len cap Tryz.underlying22 Tryz.underlying5 Tryz.underlying9]
   rw [run_bytesToString w x len cap [] (by rw [h0];rfl)]
   rfl
 ·have h:=run_convert_bytes_arg (P:=Tryz.prog) w 22 5 Tryz.underlying22 Tryz.underlying5 b off len cap (l.map fun c => (c.toNat:Int)) (by simpa using hl)
   (fun i hi => by
    rw [hc i hi,at8_get l i (by omega)]
    simp [show i < l.length by omega]) 9 Tryz.underlying9
  rw [h]
  have e:strOfNums (l.map fun c => (c.toNat:Int)) = S l:=by
   unfold strOfNums S
   rw [List.map_map]
   congr 2
   have hid:((fun n:Int => UInt8.ofNat n.toNat) ∘ fun c:UInt8 => (c.toNat:Int)) = id:=by
    funext c
    simp
   rw [hid,List.map_id]
  rw [e]
theorem ret_bool {a b:Bool} (h:a = b):Ending.returned (.bool a) = .returned (.bool b):=by rw [h]
set_option maxHeartbeats 400000 in
set_option maxRecDepth 100000 in
theorem equal_any (a b:Option Addr) (len cap lenb capb:Nat) (l m:List UInt8) (w:World) (hA:Byt w a len l) (hB:Byt w b lenb m) :
  Calls Tryz.prog 115 #[.slice a len cap,.slice b lenb capb] w fun e w' => e = .returned (.bool (decide (l = m))) ∧ w' = w:=by
 have h1:=conv_bytes w a len cap l hA
 have h2:=conv_bytes w b lenb capb m hB
 go_enter Tryz.func115,Tryz.ntmps115
 go_wp2
 go_ret
 exact ⟨ret_bool (S_beq l m),rfl⟩
set_option maxHeartbeats 400000 in
set_option maxRecDepth 100000 in
theorem same_any (a b:Option Addr) (len cap lenb capb:Nat) (l m:List UInt8) (w:World) (hA:Byt w a len l) (hB:Byt w b lenb m) :
  Calls Tryz.prog 82 #[.slice a len cap,.slice b lenb capb] w fun e w' => e = .returned (.bool (decide (l = m))) ∧ w' = w:=by
 go_enter Tryz.func82,Tryz.ntmps82
 go_wp2_with (go_at_call 115;refine (equal_any _ _ _ _ _ _ l m _ hA hB).mono ?_;rintro e w' ⟨rfl,rfl⟩)
 go_ret
 exact ⟨rfl,rfl⟩
def xorB (l m:List UInt8):List UInt8:=List.zipWith (· ^^^ ·) l m
theorem xor_val8 (a b:UInt8):bits .xor .u8 (a.toNat:Int) (b.toNat:Int) = ((a ^^^ b).toNat:Int):=by
 rw [u8_xor_nat _ _ (a.toNat_lt) (b.toNat_lt),UInt8.toNat_xor]
theorem xorB_length (l m:List UInt8):(xorB l m).length = min l.length m.length:=by simp [xorB]
theorem xorB_at (l m:List UInt8) (k:Nat) (h1:k < l.length) (h2:k < m.length):at8 (xorB l m) k = at8 l k ^^^ at8 m k:=by
 rw [at8_get _ _ (by rw [xorB_length];omega),at8_get _ _ h1,at8_get _ _ h2]
 simp [xorB]
def xorTo (l m:List UInt8) (n k:Nat):List Value:=((xorB l m).take k).map bv ++ List.replicate (n - k) (.int .u8 0)
theorem xorTo_succ (l m:List UInt8) (n k:Nat) (hn:n = min l.length m.length) (h:k < n):(xorTo l m n k).set k (bv (at8 l k ^^^ at8 m k)) = xorTo l m n (k + 1):=by
 unfold xorTo
 have hk:(((xorB l m).take k).map bv).length = k:=by simp [xorB_length];omega
 rw [List.set_append_right _ _ (by rw [hk];exact Nat.le_refl _),hk,Nat.sub_self,take_at _ _ (by rw [xorB_length];omega),xorB_at _ _ _ (by omega) (by omega)]
 rw [show n - k = (n - (k + 1)) + 1 by omega,List.replicate_succ]
 simp
theorem make_full (w:World) (n:Nat) (h:n ≤ 2000000) :
  ∃ w1,(Instr.makeSlice 22 (.int .i64 (n:Int)) (.int .i64 (n:Int))).run Tryz.prog w = .ok (.slice (some ⟨w.heap.size,0,none⟩) n n) w1 ∧
   w1.ownsRow w.heap.size 5 1 (.slice (some ⟨w.heap.size,0,none⟩) n n) n (List.replicate n (.int .u8 0)) ∧ Below w.heap.size w w1:=by
 obtain ⟨i0,hi,hz0,hz1,hz2⟩:=info_parts Tryz.infoU8
 obtain ⟨w1,h1,h2,h3⟩:=run_make_full (P:=Tryz.prog) w w.heap.size 22 5 i0 (.int .u8 0) 1 Tryz.underlying22 hi hz0 hz1 .i64 .i64 n (by rw [hz2];omega) (by unfold maxLen;omega) (Nat.le_refl _)
 refine ⟨w1,h1,?_,(Below.refl _ _).grown h3 (Nat.le_refl _) (by intro k hk;cases hk)⟩
 have e:(madeCells (Value.int .u8 0).cells (n * 1)).toList = List.replicate n (.int .u8 0):=by
  rw [Nat.mul_one];exact toList_madeCells_one _ _
 rwa [e] at h2
set_option maxHeartbeats 400000 in
set_option maxRecDepth 100000 in
theorem xor_any (a b:Option Addr) (len cap lenb capb:Nat) (l m:List UInt8) (w:World) (hA:Byt w a len l) (hB:Byt w b lenb m) (hla:len ≤ 1000000) (hlb:lenb ≤ 1000000) :
  Calls Tryz.prog 142 #[.slice a len cap,.slice b lenb capb] w fun e w' => ∃ g,e = .returned (.slice (some ⟨g,0,none⟩) (min len lenb) (min len lenb)) ∧ w.heap.size ≤ g ∧ Below w.heap.size w w' ∧ Byt w' (some ⟨g,0,none⟩) (min len lenb) (xorB l m):=by
 obtain ⟨n,hn⟩:∃ n,n = min len lenb:=⟨_,rfl⟩
 rw [← hn]
 obtain ⟨w1,hmk,hown1,hb1⟩:=make_full w n (by omega)
 have e1:(if lenb < len then (lenb:Int) else (len:Int)) = (n:Int):=by split <;> omega
 have Hn:Hid (n = min len lenb):=hn
 have hn1:n ≤ len:=by omega
 have hn2:n ≤ lenb:=by omega
 clear hn
 go_enter Tryz.func142,Tryz.ntmps142
 go_wp2
 go_loopw [15] (fun i wr => ∃ k:Nat,k ≤ n ∧ i = .int .i64 k ∧ wr.ownsRow w.heap.size 5 1 (.slice (some ⟨w.heap.size,0,none⟩) n n) n (xorTo l m n k) ∧ Below w.heap.size w wr) (fun i _ => n - (intOf i).toNat)
 case atStart => exact ⟨0,Nat.zero_le _,rfl,by simpa [xorTo] using hown1,hb1⟩
 case round =>
  obtain ⟨k,hk,rfl,hown,hbel⟩:=hrel
  have hlA:=hA.1
  have hlB:=hB.1
  by_cases hlt:k < n
  ·rcases hA.2 with h0 | ⟨ba,offa,rfl,hca⟩
   ·omega
   rcases hB.2 with h0 | ⟨bb,offb,rfl,hcb⟩
   ·omega
   have hca':=hca k (by omega)
   have hcb':=hcb k (by omega)
   have hba:=World.block_lt_of_cell? w _ hca'
   have hbb:=World.block_lt_of_cell? w _ hcb'
   have ha1:wr.cell? ⟨ba,offa + k,none⟩ = some (.int .u8 ((at8 l k).toNat:Int)):=by rw [hbel.cell (p:=⟨ba,offa + k,none⟩) hba];exact hca'
   have hb2:wr.cell? ⟨bb,offb + k,none⟩ = some (.int .u8 ((at8 m k).toNat:Int)):=by rw [hbel.cell (p:=⟨bb,offb + k,none⟩) hbb];exact hcb'
   have hc0:=hown.cellAt k (by omega)
   have hfr:=hown.frozenAt k
   obtain ⟨v0,hv0⟩:∃ v0,wr.cell? ⟨w.heap.size,k,none⟩ = some v0:=by
    rw [hc0]
    have:k < (xorTo l m n k).length:=by have:=hown.1;omega
    exact ⟨_,List.getElem?_eq_getElem this⟩
   have i1:(k:Int) < (len:Int):=by omega
   have i2:(k:Int) < (lenb:Int):=by omega
   have i3:(k:Int) < (n:Int):=by omega
   have xv:=xor_val8 (at8 l k) (at8 m k)
   clear hc0 hca hcb hown1 hb1 hmk
   have H1:Hid ((wr.setCell ⟨w.heap.size,k,none⟩ (.int .u8 ((at8 l k ^^^ at8 m k).toNat:Int))).ownsRow w.heap.size 5 1 (.slice (some ⟨w.heap.size,0,none⟩) n n) n (xorTo l m n (k + 1))):=by
    show World.ownsRow _ _ _ _ _ _ _
    rw [← xorTo_succ l m n k (by rw [hlA,hlB];exact Hn.out) hlt]
    exact (hown.stored k _).1
   go_wp2
   go_region
   go_wp2
   exact ⟨⟨k + 1,by omega,by go_num,H1.out.drew,(hbel.setCell (Nat.le_refl _) _).drew⟩,by simp [intOf];omega⟩
  ·have ek:k = n:=by omega
   subst ek
   go_wp2
   go_ret
   refine ⟨w.heap.size,rfl,Nat.le_refl _,hbel,?_⟩
   have hf:wr.ownsRow w.heap.size 5 1 (.slice (some ⟨w.heap.size,0,none⟩) k k) k ((xorB l m).map bv):=by
    have e:xorTo l m k k = (xorB l m).map bv:=by
     unfold xorTo
     rw [List.take_of_length_le (by rw [xorB_length,hlA,hlB,← Hn.out];exact Nat.le_refl _)]
     simp
    rw [← e];exact hown
   exact Byt.ofOwn hf
end Go.Proofs.YthmkhdnnljdglaaGreatDoor
namespace Go.Proofs.YthmkhdnnljdglaaGreatDoor
set_option linter.unusedVariables false
set_option maxRecDepth 100000
open Go.RowKit
def kshort (key:List UInt8):List UInt8:=if 64 < key.length then blakeB key else key
theorem kshort_length (key:List UInt8):(kshort key).length ≤ 64:=by
 unfold kshort
 split
 ·rw [blakeB_length];omega
 ·omega
def kpad (key:List UInt8):List UInt8:=kshort key ++ List.replicate (64 - (kshort key).length) 0
theorem kpad_length (key:List UInt8):(kpad key).length = 64:=by
 have:=kshort_length key
 simp [kpad];omega
def allB (c:UInt8):List UInt8:=List.replicate 64 c
def kin (key b:List UInt8):List UInt8:=xorB (kpad key) (allB 0x36) ++ b
def kout (key b:List UInt8):List UInt8:=xorB (kpad key) (allB 0x5c) ++ blakeB (kin key b)
def macB (key b:List UInt8):List UInt8:=blakeB (kout key b)
theorem macB_length (key b:List UInt8):(macB key b).length = 32:=blakeB_length _
def der1 (key b:List UInt8):List UInt8:=macB (macB key b) [1]
def der2 (key b:List UInt8):List UInt8:=macB (macB key b) (der1 key b ++ [2])
def der3 (key b:List UInt8):List UInt8:=macB (macB key b) (der2 key b ++ [3])
def nonceB (n:Nat):List UInt8:=List.replicate 4 0 ++ putB 8 n false
theorem nonceB_length (n:Nat):(nonceB n).length = 12:=by rw [nonceB,List.length_append,putB_length,List.length_replicate]
def lastN:Nat:=18446744073709551615
def sOut (key:List UInt8) (has:Bool) (n:Nat) (ad b:List UInt8):List UInt8:=if has = false then b else if n = lastN then [] else sealB key (nonceB n) ad b
def sErr (has:Bool) (n:Nat):Nat:=if has = false then 0 else if n = lastN then 5 else 0
def sNum (has:Bool) (n:Nat):Nat:=if has = false then n else if n = lastN then n else n + 1
def sealedB (key nonce ad b:List UInt8):Bool:=decide (16 ≤ b.length) && decide (b.drop (b.length - 16) = aeadTag key nonce ad (b.take (b.length - 16)))
theorem sealedB_iff (key nonce ad b:List UInt8):sealedB key nonce ad b = true ↔ Sealed key nonce ad b:=by
 unfold sealedB Sealed
 rw [Bool.and_eq_true,decide_eq_true_iff,decide_eq_true_iff]
theorem sealedB_no (key nonce ad b:List UInt8) (h:¬ Sealed key nonce ad b):sealedB key nonce ad b = false:=by
 cases hs:sealedB key nonce ad b with
 | false => rfl
 | true => exact absurd ((sealedB_iff key nonce ad b).1 hs) h
def oOut (key:List UInt8) (has:Bool) (n:Nat) (ad b:List UInt8):List UInt8:=if has = false then b else if n = lastN then [] else if sealedB key (nonceB n) ad b = true then openB key (nonceB n) b else []
def oErr (key:List UInt8) (has:Bool) (n:Nat) (ad b:List UInt8):Nat:=if has = false then 0 else if n = lastN then 5 else if sealedB key (nonceB n) ad b = true then 0 else 3
def oNum (key:List UInt8) (has:Bool) (n:Nat) (ad b:List UInt8):Nat:=if has = false then n else if n = lastN then n else if sealedB key (nonceB n) ad b = true then n + 1 else n
theorem openB_length (key nonce b:List UInt8):(openB key nonce b).length = b.length - 16:=by rw [openB,stm_length,List.length_take];omega
theorem sOut_le (key:List UInt8) (has:Bool) (n:Nat) (ad b:List UInt8):(sOut key has n ad b).length ≤ b.length + 16:=by
 unfold sOut
 split
 ·omega
 ·split
  ·simp
  ·rw [sealB_length];exact Nat.le_refl _
def nameB (s:List UInt8):List UInt8:=if 32 < s.length then blakeB s else s ++ List.replicate (32 - s.length) 0
theorem nameB_length (s:List UInt8):(nameB s).length = 32:=by
 unfold nameB
 split
 ·exact blakeB_length _
 ·rw [List.length_append,List.length_replicate];omega
def mixH (hash b:List UInt8):List UInt8:=blakeB (hash ++ b)
theorem mixH_length (hash b:List UInt8):(mixH hash b).length = 32:=blakeB_length _
def sHash (hash key:List UInt8) (has:Bool) (n:Nat) (b:List UInt8):List UInt8:=if sErr has n = 0 then mixH hash (sOut key has n hash b) else hash
def oHash (hash key:List UInt8) (has:Bool) (n:Nat) (b:List UInt8):List UInt8:=if oErr key has n hash b = 0 then mixH hash b else hash
theorem oOut_sOut (key:List UInt8) (has:Bool) (n:Nat) (ad b:List UInt8) (h:n ≠ lastN):oOut key has n ad (sOut key has n ad b) = b ∧ oErr key has n ad (sOut key has n ad b) = 0 ∧ oNum key has n ad (sOut key has n ad b) = sNum has n:=by
 cases has with
 | false => simp [oOut,sOut,oErr,oNum,sNum]
 | true =>
  have hs:sealedB key (nonceB n) ad (sealB key (nonceB n) ad b) = true:=(sealedB_iff _ _ _ _).2 (sealed_seal _ _ _ _)
  simp [oOut,sOut,oErr,oNum,sNum,h,hs,open_seal]
end Go.Proofs.YthmkhdnnljdglaaGreatDoor
