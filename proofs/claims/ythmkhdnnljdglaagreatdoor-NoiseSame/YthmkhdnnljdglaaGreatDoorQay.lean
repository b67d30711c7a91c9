import Derived.Test.YthmkhdnnljdglaaGreatDoorQax
import Derived.Test.YthmkhdnnljdglaaGreatDoorQad
import Derived.Test.YthmkhdnnljdglaaGreatDoorQah
namespace Go.Proofs.YthmkhdnnljdglaaGreatDoor
set_option linter.unusedVariables false
set_option maxRecDepth 100000
open Go.RowKit
structure FT (w:World) (b:List UInt8) (l:List Nat) (W:World):Prop where
 src:Arr W w.heap.size 24 b
 res:Nf W (w.heap.size + 1) [0,0,0,0,0]
 now:Nf W (w.heap.size + 1 + 1) l
 bel:Below w.heap.size w W
theorem FT.set {w W:World} {b:List UInt8} {l:List Nat} (t:FT w b l W) (i x:Nat):FT w b (l.set i x) (W.setCell ⟨w.heap.size + 1 + 1,i,none⟩ (nf x)):=
 ⟨t.src.other (by omega) i _,t.res.other (by omega) i _,t.now.set i x,t.bel.setCell (p:=⟨w.heap.size + 1 + 1,i,none⟩) (by show _ ≤ w.heap.size + 1 + 1;omega) _⟩
theorem FT.new (w:World) (b:List UInt8):FT w b [0,0,0,0,0] (((w.alloc (.cells (b.map bv).toArray 24)).alloc (.cells #[.int .u64 0,.int .u64 0,.int .u64 0,.int .u64 0,.int .u64 0] 96)).alloc (.cells #[.int .u64 0,.int .u64 0,.int .u64 0,.int .u64 0,.int .u64 0] 96)):=by
 have b1:Below (w.alloc (.cells (b.map bv).toArray 24)).heap.size (w.alloc (.cells (b.map bv).toArray 24)) ((w.alloc (.cells (b.map bv).toArray 24)).alloc (.cells #[.int .u64 0,.int .u64 0,.int .u64 0,.int .u64 0,.int .u64 0] 96)):=(Below.refl _ _).alloc (Nat.le_refl _) _
 have b2:=b1.alloc (by simp) (.cells #[.int .u64 0,.int .u64 0,.int .u64 0,.int .u64 0,.int .u64 0] 96)
 have h1:Nf ((w.alloc (.cells (b.map bv).toArray 24)).alloc (.cells #[.int .u64 0,.int .u64 0,.int .u64 0,.int .u64 0,.int .u64 0] 96)) (w.heap.size + 1) [0,0,0,0,0]:=by
  have:=heap_alloc_new (w.alloc (.cells (b.map bv).toArray 24)) (.cells #[.int .u64 0,.int .u64 0,.int .u64 0,.int .u64 0,.int .u64 0] 96)
  rw [World.size_alloc] at this
  exact this
 refine ⟨(Arr.new w _ b).later b2,h1.alloc _,?_,?_⟩
 ·have:=heap_alloc_new ((w.alloc (.cells (b.map bv).toArray 24)).alloc (.cells #[.int .u64 0,.int .u64 0,.int .u64 0,.int .u64 0,.int .u64 0] 96)) (.cells #[.int .u64 0,.int .u64 0,.int .u64 0,.int .u64 0,.int .u64 0] 96)
  rw [World.size_alloc,World.size_alloc] at this
  exact this
 ·exact (((Below.refl _ _).alloc (Nat.le_refl _) _).alloc (by simp) _).alloc (by simp <;> omega) _
set_option maxHeartbeats 1000000 in
set_option maxRecDepth 100000 in
theorem ffrom_any (b:List UInt8) (w:World) (hb:b.length = 32) :
  Calls Tryz.prog 55 #[.agg (b.map bv).toArray] w fun e w' => ∃ cs,e = .returned (.agg cs.toArray) ∧ Elm cs (leN b % 2 ^ 255 % P255) ∧ Below w.heap.size w w':=by
 have HV:Hid (Elm ((frT (leN b) 5).map nf) (leN b % 2 ^ 255 % P255)):=⟨_,rfl,frT_isE _,by rw [frT_val]⟩
 go_enter Tryz.func55,Tryz.ntmps55
 go_wp2
 refine from_world (P:=Code.wp Tryz.prog _ _ _) (R:=fun W => Hid (FT w b [0,0,0,0,0] W)) _ (FT.new w b) ?_
 intro W0 hN0
 go_loopw [8] (fun i wr => ∃ k:Nat,k ≤ 5 ∧ i = .int .i64 k ∧ Hid (FT w b (frT (leN b) k) wr)) (fun i _ => 5 - (intOf i).toNat)
 case atStart => exact ⟨0,by omega,rfl,hN0⟩
 case round =>
  clear hN0
  obtain ⟨k,hk,rfl,hN⟩:=hrel
  by_cases hlt:k < 5
  ·have hki:(k:Int) < 5:=by omega
   obtain ⟨p,hp⟩:∃ p,k * 51 = p:=⟨_,rfl⟩
   obtain ⟨u,hu⟩:∃ u,p / 8 = u:=⟨_,rfl⟩
   obtain ⟨q,hq⟩:∃ q,min u 24 = q:=⟨_,rfl⟩
   obtain ⟨q8,hq8⟩:∃ q8,8 * q = q8:=⟨_,rfl⟩
   obtain ⟨s,hs⟩:∃ s,p - q8 = s:=⟨_,rfl⟩
   have hlc:=fr_cut b k q s hlt (by rw [hp,hu,hq]) (by rw [hp,hq8,hs])
   have e1:(k:Int) * 51 = (p:Int):=by omega
   have e2:(p:Int).tdiv 8 = (u:Int):=by rw [Int.tdiv_eq_ediv_of_nonneg (by omega)];omega
   have e2':(p:Int) / 8 = (u:Int):=by omega
   have hs13:s < 13 ∧ q8 ≤ p:=by
    have:k = 0 ∨ k = 1 ∨ k = 2 ∨ k = 3 ∨ k = 4:=by omega
    rcases this with rfl | rfl | rfl | rfl | rfl <;> omega
   obtain ⟨hs13,hqp⟩:=hs13
   have e5:(p:Int) - (q8:Int) = (s:Int):=by omega
   obtain ⟨cc,fr⟩:=hN.out.now.word k (by rw [frT_length];omega)
   have HB:Hid (Byt wr (some ⟨w.heap.size,0,none⟩) 32 b):=hN.out.src.byt 32 hb
   have HN:Hid (FT w b (frT (leN b) k) wr):=hN
   have hpb:p < 300:=by omega
   have hub:u < 300:=by omega
   have hq8b:q8 < 300:=by omega
   by_cases h24:24 < u
   ·have h24i:24 < (u:Int):=by omega
    obtain rfl:q = 24:=by omega
    obtain rfl:q8 = 192:=by omega
    have e4:(p:Int) - 192 = (s:Int):=by omega
    clear hN hp hu hq hq8 hs e5
    go_wp2_with fail
    refine (get_yes w.heap.size 0 32 32 24 8 false b wr (by unfold maxLen;omega) (by omega) HB.out (by omega) (by omega) (by omega)).mono ?_
    rintro e w' ⟨rfl,rfl⟩
    obtain ⟨v,hv⟩:∃ v,getV b false 24 8 = v:=⟨_,rfl⟩
    rw [hv] at hlc ⊢
    have hvb:v < 18446744073709551616:=by
     rw [← hv,getV_cut]
     exact Nat.lt_of_lt_of_le (Nat.mod_lt _ (by decide)) (by decide)
    have E1:Hid ((v:Int) / 2 ^ s = ((v / 2 ^ s:Nat):Int)):=by show _ = _;simp
    have hvs:v / 2 ^ s < 18446744073709551616:=Nat.lt_of_le_of_lt (Nat.div_le_self _ _) hvb
    have E2:Hid (bits .and .u64 ((v / 2 ^ s:Nat):Int) 2251799813685247 = ((v / 2 ^ s % 2251799813685248:Nat):Int)):=and51 _ hvs
    have HN1:Hid (FT w b (frT (leN b) (k + 1)) (w'.setCell ⟨w.heap.size + 1 + 1,k,none⟩ (.int .u64 ((v / 2 ^ s % 2251799813685248:Nat):Int)))):=by
     rw [frT,← hlc];exact HN.out.set k _
    clear HN hvs hlc
    go_wp2
    rw [E1.out,E2.out]
    exact ⟨⟨k + 1,by omega,by go_num,HN1⟩,by simp [intOf];omega⟩
   ·have h24i:¬ 24 < (u:Int):=by omega
    obtain rfl:u = q:=by omega
    have e4:8 * (u:Int) = (q8:Int):=by omega
    clear hN hp hu hq hq8 hs
    go_wp2_with fail
    refine (get_yes w.heap.size 0 32 32 u 8 false b wr (by unfold maxLen;omega) (by omega) HB.out (by omega) (by omega) (by omega)).mono ?_
    rintro e w' ⟨rfl,rfl⟩
    obtain ⟨v,hv⟩:∃ v,getV b false u 8 = v:=⟨_,rfl⟩
    rw [hv] at hlc ⊢
    have hvb:v < 18446744073709551616:=by
     rw [← hv,getV_cut]
     exact Nat.lt_of_lt_of_le (Nat.mod_lt _ (by decide)) (by decide)
    have E1:Hid ((v:Int) / 2 ^ s = ((v / 2 ^ s:Nat):Int)):=by show _ = _;simp
    have hvs:v / 2 ^ s < 18446744073709551616:=Nat.lt_of_le_of_lt (Nat.div_le_self _ _) hvb
    have E2:Hid (bits .and .u64 ((v / 2 ^ s:Nat):Int) 2251799813685247 = ((v / 2 ^ s % 2251799813685248:Nat):Int)):=and51 _ hvs
    have HN1:Hid (FT w b (frT (leN b) (k + 1)) (w'.setCell ⟨w.heap.size + 1 + 1,k,none⟩ (.int .u64 ((v / 2 ^ s % 2251799813685248:Nat):Int)))):=by
     rw [frT,← hlc];exact HN.out.set k _
    clear HN hvs hlc
    go_wp2
    rw [E1.out,E2.out]
    exact ⟨⟨k + 1,by omega,by go_num,HN1⟩,by simp [intOf];omega⟩
  ·have ek:k = 5:=by omega
   subst ek
   have hkr:¬ ((5:Nat):Int) < 5:=by omega
   obtain ⟨M,hM⟩:∃ M,frT (leN b) 5 = M:=⟨_,rfl⟩
   have hMl:M.length = 5:=by rw [← hM,frT_length]
   rw [hM] at hN HV
   have IM:Hid ((Tryz.prog.info? 96).map (·.size) = some (M.map nf).toArray.size):=nf_info M hMl
   have hst:=store_row wr (w.heap.size + 1) _ _ (M.map nf) hN.out.res (by simp [hMl]) (nf_oneCell M)
   have hrow:=setRow_heap wr (w.heap.size + 1) _ (M.map nf).toArray _ _ hN.out.res
   have HBel:Hid (Below w.heap.size w (wr.setRow (w.heap.size + 1) (M.map nf).toArray)):=below_setRow hN.out.bel (by omega) _
   obtain ⟨W4,hW4⟩:∃ W4,wr.setRow (w.heap.size + 1) (M.map nf).toArray = W4:=⟨_,rfl⟩
   rw [hW4] at hst hrow HBel
   have HRow:Hid (W4.heap[w.heap.size + 1]? = some (.cells (M.map nf).toArray 96 (0,0))):=hrow
   clear hrow hW4 hM
   go_wp2_with (first | refine wpList_load_row rfl 96 _ rfl (w.heap.size + 1 + 1) rfl 96 _ (0,0) _ hN.out.now Tryz.underlying96 rfl IM.out ?_)
   (try simp only [Exit.inBlock,Exit.then])
   refine bodyPost_ret (results_cell_row rfl _ _ (w.heap.size + 1) 96 _ (0,0) _ rfl HRow.out Tryz.underlying96 rfl IM.out) rfl ?_
   exact ⟨M.map nf,rfl,HV.out,HBel.out⟩
set_option maxHeartbeats 1000000 in
set_option maxRecDepth 100000 in
theorem fsmall_any (n:Nat) (w:World) (hn:n < 4294967296) :
  Calls Tryz.prog 56 #[.int .u32 (n:Int)] w fun e w' => ∃ cs,e = .returned (.agg cs.toArray) ∧ Elm cs n ∧ Below w.heap.size w w':=by
 have HV:Hid (Elm ([n,0,0,0,0].map nf) n):=⟨_,rfl,⟨n,0,0,0,0,rfl,by omega,by decide,by decide,by decide,by decide⟩,by
  simp only [valF,Nat.mul_zero,Nat.add_zero]
  exact Nat.mod_eq_of_lt (Nat.lt_trans hn (by decide))⟩
 have IM:Hid ((Tryz.prog.info? 96).map (·.size) = some ([n,0,0,0,0].map nf).toArray.size):=nf_info _ rfl
 have e1:IntKind.u64.wrap (n:Int) = (n:Int):=by rw [IntKind.wrap_u64];omega
 have hst:=run_store_new w 96 ([n,0,0,0,0].map nf) 5 rfl (by kernel_rfl) (nf_oneCell _)
 have HP:Hid ((w.alloc (.cells ([n,0,0,0,0].map nf).toArray 96)).heap[w.heap.size]? = some (.cells ([n,0,0,0,0].map nf).toArray 96 (0,0))):=heap_alloc_new w _
 have HBel:Hid (Below w.heap.size w (w.alloc (.cells ([n,0,0,0,0].map nf).toArray 96))):=(Below.refl _ _).alloc (Nat.le_refl _) _
 simp only [List.map_cons,List.map_nil,nf] at hst
 go_enter Tryz.func56,Tryz.ntmps56
 go_wp2
 (try simp only [Exit.inBlock,Exit.then])
 refine bodyPost_ret (results_cell_row rfl _ _ w.heap.size 96 _ (0,0) _ rfl HP.out Tryz.underlying96 rfl IM.out) rfl ?_
 exact ⟨_,rfl,HV.out,HBel.out⟩
end Go.Proofs.YthmkhdnnljdglaaGreatDoor
