import Derived.Test.YthmkhdnnljdglaaGreatDoorQax
import Derived.Laws.Externs
import Derived.Test.YthmkhdnnljdglaaGreatDoorQay
import Derived.Test.YthmkhdnnljdglaaGreatDoorQah
import Derived.Test.YthmkhdnnljdglaaGreatDoorQas
import Derived.Test.YthmkhdnnljdglaaGreatDoorQal
namespace Go.Proofs.YthmkhdnnljdglaaGreatDoor
set_option linter.unusedVariables false
set_option maxRecDepth 100000
open Go.RowKit
theorem and32 (n:Nat) (h:n < 18446744073709551616):bits .and .u64 (n:Int) 4294967295 = ((n % 4294967296:Nat):Int):=by
 have e:(BitVec.ofInt 64 (n:Int) &&& BitVec.ofInt 64 4294967295).toNat = n % 4294967296:=by
  rw [BitVec.toNat_and,BitVec.toNat_ofInt]
  have h7:(BitVec.ofInt 64 4294967295).toNat = 2 ^ 32 - 1:=by decide
  rw [h7,Nat.and_two_pow_sub_one_eq_mod]
  omega
 show IntKind.u64.wrap ((BitVec.ofInt 64 (n:Int) &&& BitVec.ofInt 64 4294967295).toNat:Int) = _
 rw [e,IntKind.wrap_u64]
 omega
theorem half_prod (a b:Nat) (ha:a < 4294967296) (hb:b < 4294967296):a * b ≤ 18446744065119617025:=
 Nat.mul_le_mul (Nat.le_of_lt_succ ha) (Nat.le_of_lt_succ hb)
theorem half_split (x1 x0 y1 y0:Nat):(x1 * 4294967296 + x0) * (y1 * 4294967296 + y0) = x1 * y1 * 18446744073709551616 + (x1 * y0 + x0 * y1) * 4294967296 + x0 * y0:=by grind
set_option maxHeartbeats 1000000 in
set_option maxRecDepth 100000 in
theorem fmul64_any (x y:Nat) (w:World) (hx:x < 18446744073709551616) (hy:y < 18446744073709551616) :
  Calls Tryz.prog 117 #[.int .u64 (x:Int),.int .u64 (y:Int)] w fun e w' => e = .returned (.tuple #[.int .u64 ((x * y / 18446744073709551616:Nat):Int),.int .u64 ((x * y % 18446744073709551616:Nat):Int)]) ∧ w' = w:=by
 obtain ⟨x0,hx0⟩:∃ x0,x % 4294967296 = x0:=⟨_,rfl⟩
 obtain ⟨x1,hx1⟩:∃ x1,x / 4294967296 = x1:=⟨_,rfl⟩
 obtain ⟨y0,hy0⟩:∃ y0,y % 4294967296 = y0:=⟨_,rfl⟩
 obtain ⟨y1,hy1⟩:∃ y1,y / 4294967296 = y1:=⟨_,rfl⟩
 have hsp:=half_split x1 x0 y1 y0
 rw [show x1 * 4294967296 + x0 = x by omega,show y1 * 4294967296 + y0 = y by omega] at hsp
 have bA:=half_prod x1 y1 (by omega) (by omega)
 have bB:=half_prod x1 y0 (by omega) (by omega)
 have bC:=half_prod x0 y0 (by omega) (by omega)
 have bD:=half_prod x0 y1 (by omega) (by omega)
 have ax:=and32 x hx
 have ay:=and32 y hy
 rw [hx0] at ax
 rw [hy0] at ay
 have sx:(x:Int) / 4294967296 = (x1:Int):=by omega
 have sy:(y:Int) / 4294967296 = (y1:Int):=by omega
 obtain ⟨A,hA⟩:∃ A,x1 * y1 = A:=⟨_,rfl⟩
 obtain ⟨B,hB⟩:∃ B,x1 * y0 = B:=⟨_,rfl⟩
 obtain ⟨C,hC⟩:∃ C,x0 * y0 = C:=⟨_,rfl⟩
 obtain ⟨D,hD⟩:∃ D,x0 * y1 = D:=⟨_,rfl⟩
 obtain ⟨p,hp⟩:∃ p,x * y = p:=⟨_,rfl⟩
 have iA:(x1:Int) * (y1:Int) = (A:Int):=by rw [← hA];simp
 have iB:(x1:Int) * (y0:Int) = (B:Int):=by rw [← hB];simp
 have iC:(x0:Int) * (y0:Int) = (C:Int):=by rw [← hC];simp
 have iD:(x0:Int) * (y1:Int) = (D:Int):=by rw [← hD];simp
 have ip:(x:Int) * (y:Int) = (p:Int):=by rw [← hp];simp
 rw [hA,hB,hC,hD,hp] at hsp
 rw [hA] at bA
 rw [hB] at bB
 rw [hC] at bC
 rw [hD] at bD
 rw [hp]
 obtain ⟨C1,hC1⟩:∃ C1,C / 4294967296 = C1:=⟨_,rfl⟩
 have iC1:(C:Int) / 4294967296 = (C1:Int):=by omega
 obtain ⟨T,hT⟩:∃ T,B + C1 = T:=⟨_,rfl⟩
 have iT:(B:Int) + (C1:Int) = (T:Int):=by omega
 have bT:T < 18446744073709551616:=by omega
 have aT:=and32 T bT
 obtain ⟨T0,hT0⟩:∃ T0,T % 4294967296 = T0:=⟨_,rfl⟩
 rw [hT0] at aT
 obtain ⟨T1,hT1⟩:∃ T1,T / 4294967296 = T1:=⟨_,rfl⟩
 have iT1:(T:Int) / 4294967296 = (T1:Int):=by omega
 obtain ⟨U,hU⟩:∃ U,T0 + D = U:=⟨_,rfl⟩
 have iU:(T0:Int) + (D:Int) = (U:Int):=by omega
 have bU:U < 18446744073709551616:=by omega
 obtain ⟨U1,hU1⟩:∃ U1,U / 4294967296 = U1:=⟨_,rfl⟩
 have iU1:(U:Int) / 4294967296 = (U1:Int):=by omega
 obtain ⟨V,hV⟩:∃ V,A + T1 = V:=⟨_,rfl⟩
 have iV:(A:Int) + (T1:Int) = (V:Int):=by omega
 have bV:V < 18446744073709551616:=by omega
 obtain ⟨H,hH⟩:∃ H,V + U1 = H:=⟨_,rfl⟩
 have iH:(V:Int) + (U1:Int) = (H:Int):=by omega
 have bH:H < 18446744073709551616:=by omega
 have RH:Hid (p / 18446744073709551616 = H):=by show _ = _;omega
 have RL:Hid (IntKind.u64.wrap (p:Int) = ((p % 18446744073709551616:Nat):Int)):=by show _ = _;rw [IntKind.wrap_u64];omega
 have bA':A < 18446744073709551616:=by omega
 have bB':B < 18446744073709551616:=by omega
 have bC':C < 18446744073709551616:=by omega
 have bD':D < 18446744073709551616:=by omega
 clear hx0 hx1 hy0 hy1 hsp bA bB bC bD hA hB hC hD hp hC1 hT hT0 hT1 hU hU1 hV hH
 go_enter Tryz.func117,Tryz.ntmps117
 go_wp2
 go_ret2
 refine ⟨?_,rfl⟩
 rw [RH.out,RL.out]
 rfl
theorem fadd64 (x y c:Int) (hx:0 ≤ x) (hy:0 ≤ y) (hc0:0 ≤ c) (hc:c ≤ 1) (w:World):(callFunc 118 #[.int .u64 x,.int .u64 y,.int .u64 c]).run Tryz.prog w =
  .ok (.value (.tuple #[.int .u64 ((x + y + c) % 18446744073709551616),.int .u64 ((x + y + c) / 18446744073709551616)])) w:=by
 rw [run_callFunc_extern Tryz.func118 (by kernel_rfl) (by kernel_rfl) (by kernel_rfl) (e:=add64Entry) (by kernel_rfl),run_add64 x y c hx hy hc0 hc]
 rfl
theorem fadd64_nat (x y c s o:Nat) (hc:c ≤ 1) (hs:(x + y + c) % 18446744073709551616 = s) (ho:(x + y + c) / 18446744073709551616 = o) (w:World):(callFunc 118 #[.int .u64 (x:Int),.int .u64 (y:Int),.int .u64 (c:Int)]).run Tryz.prog w =
  .ok (.value (.tuple #[.int .u64 (s:Int),.int .u64 (o:Int)])) w:=by
 have e1:((x:Int) + (y:Int) + (c:Int)) % 18446744073709551616 = (s:Int):=by omega
 have e2:((x:Int) + (y:Int) + (c:Int)) / 18446744073709551616 = (o:Int):=by omega
 rw [fadd64 _ _ _ (by omega) (by omega) (by omega) (by omega),e1,e2]
set_option maxHeartbeats 1000000 in
set_option maxRecDepth 100000 in
theorem faddp_any (h l a b:Nat) (w:World) (hh:h < 18446744073709551616) (hl:l < 18446744073709551616) (ha:a < 18446744073709551616) (hb:b < 18446744073709551616) (T:Nat) (hT:h * 18446744073709551616 + l + a * b = T) (hTl:T < 340282366920938463463374607431768211456) :
  Calls Tryz.prog 87 #[.int .u64 (h:Int),.int .u64 (l:Int),.int .u64 (a:Int),.int .u64 (b:Int)] w fun e w' => e = .returned (.tuple #[.int .u64 ((T / 18446744073709551616:Nat):Int),.int .u64 ((T % 18446744073709551616:Nat):Int)]) ∧ w' = w:=by
 obtain ⟨p,hp⟩:∃ p,a * b = p:=⟨_,rfl⟩
 have HM:Hid (∀ w,Calls Tryz.prog 117 #[.int .u64 (a:Int),.int .u64 (b:Int)] w fun e w' => e = .returned (.tuple #[.int .u64 ((p / 18446744073709551616:Nat):Int),.int .u64 ((p % 18446744073709551616:Nat):Int)]) ∧ w' = w):=fun w => by
  have:=fmul64_any a b w ha hb
  rw [hp] at this
  exact this
 rw [hp] at hT
 obtain ⟨ph,hph⟩:∃ ph,p / 18446744073709551616 = ph:=⟨_,rfl⟩
 obtain ⟨pl,hpl⟩:∃ pl,p % 18446744073709551616 = pl:=⟨_,rfl⟩
 rw [hph,hpl] at HM
 obtain ⟨s,hs⟩:∃ s,T % 18446744073709551616 = s:=⟨_,rfl⟩
 obtain ⟨o,ho⟩:∃ o,(l + pl) / 18446744073709551616 = o:=⟨_,rfl⟩
 obtain ⟨t,ht⟩:∃ t,T / 18446744073709551616 = t:=⟨_,rfl⟩
 have hpl2:pl < 18446744073709551616:=by omega
 have ho1:o ≤ 1:=by omega
 have A1:∀ w',(callFunc 118 #[.int .u64 (l:Int),.int .u64 (pl:Int),.int .u64 0]).run Tryz.prog w' = .ok (.value (.tuple #[.int .u64 (s:Int),.int .u64 (o:Int)])) w':=fadd64_nat l pl 0 s o (by omega) (by omega) (by omega)
 have A2:∀ w',(callFunc 118 #[.int .u64 (h:Int),.int .u64 (ph:Int),.int .u64 (o:Int)]).run Tryz.prog w' = .ok (.value (.tuple #[.int .u64 (t:Int),.int .u64 ((0:Nat):Int)])) w':=fadd64_nat h ph o t 0 ho1 (by omega) (by omega)
 rw [hs,ht]
 clear hs ht ho hT hTl hp hph hpl ho1
 go_enter Tryz.func87,Tryz.ntmps87
 go_wp2_with fail
 refine (HM.out w).mono ?_
 rintro e w' ⟨rfl,rfl⟩
 go_wp2
 go_ret2
 exact ⟨rfl,rfl⟩
structure F4 (w:World) (x y l:List Nat) (W:World):Prop where
 x:Nf W w.heap.size x
 y:Nf W (w.heap.size + 1) y
 res:Nf W (w.heap.size + 1 + 1) [0,0,0,0,0]
 out:Nf W (w.heap.size + 1 + 1 + 1) l
 bel:Below w.heap.size w W
theorem F4.new (w:World) (x y:List Nat):F4 w x y [0,0,0,0,0] ((((w.alloc (.cells (x.map nf).toArray 96)).alloc (.cells (y.map nf).toArray 96)).alloc (.cells #[.int .u64 0,.int .u64 0,.int .u64 0,.int .u64 0,.int .u64 0] 96)).alloc (.cells #[.int .u64 0,.int .u64 0,.int .u64 0,.int .u64 0,.int .u64 0] 96)):=by
 have h0:=F3.new w x y
 have h1:=heap_alloc_new (((w.alloc (.cells (x.map nf).toArray 96)).alloc (.cells (y.map nf).toArray 96)).alloc (.cells #[.int .u64 0,.int .u64 0,.int .u64 0,.int .u64 0,.int .u64 0] 96)) (.cells #[.int .u64 0,.int .u64 0,.int .u64 0,.int .u64 0,.int .u64 0] 96)
 rw [World.size_alloc,World.size_alloc,World.size_alloc] at h1
 exact ⟨h0.now.alloc _,h0.oth.alloc _,h0.res.alloc _,h1,h0.bel.alloc (by simp <;> omega) _⟩
theorem F4.set {w W:World} {x y l:List Nat} (t:F4 w x y l W) (i v:Nat):F4 w x y (l.set i v) (W.setCell ⟨w.heap.size + 1 + 1 + 1,i,none⟩ (nf v)):=
 ⟨t.x.other (by omega) i _,t.y.other (by omega) i _,t.res.other (by omega) i _,t.out.set i v,t.bel.setCell (p:=⟨w.heap.size + 1 + 1 + 1,i,none⟩) (by show _ ≤ w.heap.size + 1 + 1 + 1;omega) _⟩
theorem F4.later {w W W':World} {x y l:List Nat} (t:F4 w x y l W) (hb:Below W.heap.size W W'):F4 w x y l W':=
 ⟨t.x.later hb,t.y.later hb,t.res.later hb,t.out.later hb,t.bel.trans (hb.mono t.bel.size)⟩
theorem nf_arr (l:List Nat) (hl:l.length = 5):(Tryz.prog.info? 94).map (·.size) = some (l.map nf).toArray.size:=by
 have e1:(Tryz.prog.info? 94).map (·.size) = some 5:=by kernel_rfl
 rw [e1];simp [hl]
theorem nf_index (n:List Nat) (i:Nat) (hi:i < n.length):(n.map nf).toArray[i]? = some (.int .u64 (atD n i:Int)):=by
 rw [atD_get n i hi];simp [hi,nf]
theorem run_nf_index (w:World) (n:List Nat) (i:Nat) (hn:n.length = 5) (hi:i < 5):(Instr.index 94 (.agg (n.map nf).toArray) (.int .i64 (i:Int))).run Tryz.prog w = .ok (.int .u64 (atD n i:Int)) w:=by
 have hu:Tryz.prog.underlying 94 = some (.array 5 40):=Tryz.underlying94
 have he:Tryz.prog.plainKey 40 = true:=by kernel_rfl
 have hc:Tryz.prog.cellsOf 40 = 1:=by kernel_rfl
 have p1:=run_part_plain (P:=Tryz.prog) w he (xs:=(n.map nf).toArray) (off:=i * 1) (v:=.int .u64 (atD n i:Int)) (by rw [Nat.mul_one];exact nf_index n i (by omega))
 rw [Nat.mul_one] at p1
 simp [Instr.index,asIntOf,run_underlying hu,hi,go_sem]
 rw [List.getElem?_eq_getElem (by omega),atD_get n i (by omega)]
 rfl
theorem div_back (T:Nat):T / 18446744073709551616 * 18446744073709551616 + T % 18446744073709551616 = T:=by omega
theorem or_add (x y m:Nat) (z:Int) (hz:z = ((y * 2 ^ m:Nat):Int)) (hx:x < 2 ^ m) (hy:x + y * 2 ^ m < 18446744073709551616):bits .or .u64 (x:Int) z = ((x + y * 2 ^ m:Nat):Int):=by
 rw [hz,or_val64 x (y * 2 ^ m) (by omega) (by omega),Nat.or_comm,or_far y x m hx,Nat.add_comm]
theorem over_or (H L T:Nat) (hT:H * 18446744073709551616 + L = T) (hL:L < 18446744073709551616) (hTl:T < 649037107316853453566312041152512):bits .or .u64 ((L:Int) / 2251799813685248) (IntKind.u64.wrap ((H:Int) * 8192)) = ((T / 2251799813685248:Nat):Int):=by
 have e1:(L:Int) / 2251799813685248 = ((L / 2251799813685248:Nat):Int):=by omega
 have e2:IntKind.u64.wrap ((H:Int) * 8192) = ((H * 2 ^ 13:Nat):Int):=by rw [IntKind.wrap_u64];omega
 rw [e1,or_add (L / 2251799813685248) H 13 _ e2 (by omega) (by omega)]
 omega
set_option maxHeartbeats 4000000 in
set_option maxRecDepth 100000 in
theorem fmul_any (A B:List Value) (vx vy:Nat) (w:World) (hA:Elm A vx) (hB:Elm B vy) :
  Calls Tryz.prog 59 #[.agg A.toArray,.agg B.toArray] w fun e w' => ∃ cs,e = .returned (.agg cs.toArray) ∧ Elm cs ((vx * vy) % P255) ∧ Below w.heap.size w w':=by
 obtain ⟨x,rfl,hEx,hx⟩:=hA.dig
 obtain ⟨y,rfl,hEy,hy⟩:=hB.dig
 have hxl:=hEx.len
 have hyl:=hEy.len
 obtain ⟨s1,s2,s3⟩:=endF_small x y hEx hEy
 have HV:Hid (Elm ((carF (endF x y)).map nf) ((vx * vy) % P255)):=⟨_,rfl,s3,by rw [carF_val _ s1,endF_val x y hEx hEy,hx,hy]⟩
 have HSB:Hid (∀ t ∈ endF x y,t < 9223372036854775808):=s2
 have HEx:Hid (IsE x):=hEx
 have HEy:Hid (IsE y):=hEy
 have IX:Hid ((Tryz.prog.info? 94).map (·.size) = some (x.map nf).toArray.size):=nf_arr x hxl
 clear hA hB hx hy s1 s2 s3 hEx hEy
 go_enter Tryz.func59,Tryz.ntmps59
 go_wp2
 refine from_world (P:=Code.wp Tryz.prog _ _ _) (R:=fun W => Hid (F4 w x y [0,0,0,0,0] W)) _ (F4.new w x y) ?_
 intro W0 hN0
 go_loopw [6,7,12] (fun hi lo i wr => ∃ k c:Nat,k ≤ 5 ∧ hi = .int .u64 0 ∧ lo = .int .u64 (c:Int) ∧ i = .int .i64 k ∧ Hid ((mulF x y k).2 = c) ∧ Hid (F4 w x y (mulF x y k).1 wr)) (fun _ _ i _ => 5 - (intOf i).toNat)
 case atStart => exact ⟨0,0,by omega,rfl,rfl,rfl,rfl,hN0⟩
 case round =>
  clear hN0
  obtain ⟨k,c,hk,rfl,rfl,rfl,hc,hN⟩:=hrel
  by_cases hlt:k < 5
  ·have hki:(k:Int) < 5:=by omega
   have hcl:c < 288230376151711744:=by rw [← hc.out];exact mulF_over x y HEx.out HEy.out k
   go_wp2_with (first | refine wpList_load_row rfl 94 _ rfl w.heap.size rfl 96 _ (0,0) _ hN.out.x Tryz.underlying94 rfl IX.out ?_)
   have HO:Hid (rowT x y k c 0 = c):=rfl
   go_loopw [6,7,17] (fun hi lo i wr2 => ∃ j H L:Nat,j ≤ 5 ∧ hi = .int .u64 (H:Int) ∧ lo = .int .u64 (L:Int) ∧ i = .int .i64 j ∧ H * 18446744073709551616 + L < 649037107316853453566312041152512 ∧ L < 18446744073709551616 ∧ Hid (H * 18446744073709551616 + L = rowT x y k c j) ∧ wr2 = wr) (fun _ _ i _ => 5 - (intOf i).toNat)
   case atStart => exact ⟨0,0,c,by omega,rfl,rfl,rfl,by omega,by omega,by rw [HO.out];show _ = _;omega,rfl⟩
   case round =>
    clear HO
    obtain ⟨j,H,L,hj,rfl,rfl,rfl,hHL,hL,hrow,rfl⟩:=hrel
    by_cases hjl:j < 5
    ·have hji:(j:Int) < 5:=by omega
     obtain ⟨a,ha⟩:∃ a,atD x j = a:=⟨_,rfl⟩
     have hix:=run_nf_index wr x j hxl hjl
     rw [ha] at hix
     have hab:a < 2251799813685286:=by rw [← ha];exact atD_bound x _ (by omega) HEx.out.lt j
     have hsm:=rowT_small x y HEx.out HEy.out k (j + 1) (by omega)
     rw [hc.out] at hsm
     by_cases hjk:k < j
     ·obtain ⟨z,hz⟩:∃ z,j - k = z:=⟨_,rfl⟩
      obtain ⟨q,hq⟩:∃ q,k + 5 - j = q:=⟨_,rfl⟩
      obtain ⟨b,hb⟩:∃ b,atD y q = b:=⟨_,rfl⟩
      have hbb:b < 2251799813685286:=by rw [← hb];exact atD_bound y _ (by omega) HEy.out.lt q
      obtain ⟨cc,fr⟩:=hN.out.y.word q (by omega)
      rw [hb] at cc
      obtain ⟨d,hd⟩:∃ d,19 * a = d:=⟨_,rfl⟩
      have hdb:d < 18446744073709551616:=by omega
      have hbb':b < 18446744073709551616:=by omega
      have hz0:(k:Int) - (j:Int) = -(z:Int):=by omega
      have hz1:-(z:Int) < 0:=by omega
      have hz2:-(z:Int) + 5 = (q:Int):=by omega
      have hz3:z ≤ 5:=by omega
      have hq5:(q:Int) < 5:=by omega
      have hdi:(a:Int) * 19 = (d:Int):=by omega
      have hstep:rowT x y k c (j + 1) = H * 18446744073709551616 + L + d * b:=by rw [rowT,← hrow.out,prT,if_pos hjk,ha,hq,hb,hd]
      rw [hstep] at hsm
      obtain ⟨T,hT⟩:∃ T,H * 18446744073709551616 + L + d * b = T:=⟨_,rfl⟩
      rw [hT] at hsm hstep
      have HStep:Hid (rowT x y k c (j + 1) = T):=hstep
      have hH:H < 18446744073709551616:=by omega
      have hTl:T < 340282366920938463463374607431768211456:=by omega
      have HF:Hid (∀ w,Calls Tryz.prog 87 #[.int .u64 (H:Int),.int .u64 (L:Int),.int .u64 (d:Int),.int .u64 (b:Int)] w fun e w' => e = .returned (.tuple #[.int .u64 ((T / 18446744073709551616:Nat):Int),.int .u64 ((T % 18446744073709551616:Nat):Int)]) ∧ w' = w):=fun w => faddp_any H L d b w hH hL hdb hbb' T hT hTl
      have hE1:=div_back T
      have hE2:T % 18446744073709551616 < 18446744073709551616:=Nat.mod_lt _ (by decide)
      obtain ⟨H',hH'⟩:∃ H',T / 18446744073709551616 = H':=⟨_,rfl⟩
      obtain ⟨L',hL'⟩:∃ L',T % 18446744073709551616 = L':=⟨_,rfl⟩
      rw [hH',hL'] at HF hE1
      rw [hL'] at hE2
      have HE1:Hid (H' * 18446744073709551616 + L' = T):=hE1
      have HE2:Hid (H' * 18446744073709551616 + L' < 649037107316853453566312041152512 ∧ L' < 18446744073709551616):=⟨by rw [hE1];exact hsm,hE2⟩
      clear hT hTl hH' hL' hE1 hE2 hsm
      clear hrow hstep hz hq hb hd ha hc HSB
      go_wp2_with fail
      refine (HF.out wr).mono ?_
      rintro e w8 ⟨rfl,rfl⟩
      clear hix HF
      go_wp2
      exact ⟨⟨j + 1,H',L',by omega,rfl,rfl,by go_num,HE2.out.1,HE2.out.2,HE1.out.trans HStep.out.symm,by first | rfl | trivial⟩,by simp [intOf];omega⟩
     ·obtain ⟨q,hq⟩:∃ q,k - j = q:=⟨_,rfl⟩
      obtain ⟨b,hb⟩:∃ b,atD y q = b:=⟨_,rfl⟩
      have hbb:b < 2251799813685286:=by rw [← hb];exact atD_bound y _ (by omega) HEy.out.lt q
      obtain ⟨cc,fr⟩:=hN.out.y.word q (by omega)
      rw [hb] at cc
      have hab':a < 18446744073709551616:=by omega
      have hbb':b < 18446744073709551616:=by omega
      have hz0:(k:Int) - (j:Int) = (q:Int):=by omega
      have hz1:¬ (q:Int) < 0:=by omega
      have hq5:(q:Int) < 5:=by omega
      have hstep:rowT x y k c (j + 1) = H * 18446744073709551616 + L + a * b:=by rw [rowT,← hrow.out,prT,if_neg hjk,ha,hq,hb]
      rw [hstep] at hsm
      obtain ⟨T,hT⟩:∃ T,H * 18446744073709551616 + L + a * b = T:=⟨_,rfl⟩
      rw [hT] at hsm hstep
      have HStep:Hid (rowT x y k c (j + 1) = T):=hstep
      have hH:H < 18446744073709551616:=by omega
      have hTl:T < 340282366920938463463374607431768211456:=by omega
      have HF:Hid (∀ w,Calls Tryz.prog 87 #[.int .u64 (H:Int),.int .u64 (L:Int),.int .u64 (a:Int),.int .u64 (b:Int)] w fun e w' => e = .returned (.tuple #[.int .u64 ((T / 18446744073709551616:Nat):Int),.int .u64 ((T % 18446744073709551616:Nat):Int)]) ∧ w' = w):=fun w => faddp_any H L a b w hH hL hab' hbb' T hT hTl
      have hE1:=div_back T
      have hE2:T % 18446744073709551616 < 18446744073709551616:=Nat.mod_lt _ (by decide)
      obtain ⟨H',hH'⟩:∃ H',T / 18446744073709551616 = H':=⟨_,rfl⟩
      obtain ⟨L',hL'⟩:∃ L',T % 18446744073709551616 = L':=⟨_,rfl⟩
      rw [hH',hL'] at HF hE1
      rw [hL'] at hE2
      have HE1:Hid (H' * 18446744073709551616 + L' = T):=hE1
      have HE2:Hid (H' * 18446744073709551616 + L' < 649037107316853453566312041152512 ∧ L' < 18446744073709551616):=⟨by rw [hE1];exact hsm,hE2⟩
      clear hT hTl hH' hL' hE1 hE2 hsm
      clear hrow hstep hq hb ha hc HSB
      go_wp2_with fail
      refine (HF.out wr).mono ?_
      rintro e w8 ⟨rfl,rfl⟩
      clear hix HF
      go_wp2
      exact ⟨⟨j + 1,H',L',by omega,rfl,rfl,by go_num,HE2.out.1,HE2.out.2,HE1.out.trans HStep.out.symm,by first | rfl | trivial⟩,by simp [intOf];omega⟩
    ·have ej:j = 5:=by omega
     subst ej
     have hjr:¬ ((5:Nat):Int) < 5:=by omega
     obtain ⟨T,hT⟩:∃ T,H * 18446744073709551616 + L = T:=⟨_,rfl⟩
     have hrT:rowT x y k c 5 = T:=by rw [← hrow.out,hT]
     rw [hT] at hHL
     have EA:Hid (bits .and .u64 (L:Int) 2251799813685247 = ((T % 2251799813685248:Nat):Int)):=by
      show _ = _
      rw [and51 L hL]
      omega
     have EO:Hid (bits .or .u64 ((L:Int) / 2251799813685248) (IntKind.u64.wrap ((H:Int) * 8192)) = ((T / 2251799813685248:Nat):Int)):=over_or H L T hT hL hHL
     have hN1:=hN.out.set k (T % 2251799813685248)
     have HN1:Hid (F4 w x y (mulF x y (k + 1)).1 (wr.setCell ⟨w.heap.size + 1 + 1 + 1,k,none⟩ (.int .u64 ((T % 2251799813685248:Nat):Int)))):=by rw [mulF,hc.out,hrT];exact hN1
     have HC1:Hid ((mulF x y (k + 1)).2 = T / 2251799813685248):=by rw [mulF,hc.out,hrT];rfl
     obtain ⟨cc,fr⟩:=hN.out.out.word k (by rw [mulF_length];omega)
     clear hN hN1 hrow hrT hT hc HSB
     go_wp2
     rw [EA.out,EO.out]
     exact ⟨⟨k + 1,T / 2251799813685248,by omega,rfl,rfl,by go_num,HC1,HN1⟩,by simp [intOf];omega⟩
  ·have ek:k = 5:=by omega
   subst ek
   have hkr:¬ ((5:Nat):Int) < 5:=by omega
   obtain ⟨m,hm⟩:∃ m,(mulF x y 5).1 = m:=⟨_,rfl⟩
   have hml:m.length = 5:=by rw [← hm,mulF_length]
   have hcb:c < 288230376151711744:=by rw [← hc.out];exact mulF_over x y HEx.out HEy.out 5
   obtain ⟨a,ha⟩:∃ a,atD m 0 = a:=⟨_,rfl⟩
   have hend:endF x y = m.set 0 (a + 19 * c):=by rw [endF,hm,hc.out,ha]
   have hsb:=HSB.out
   have hab:a + 19 * c < 9223372036854775808:=hsb _ (by rw [hend];exact List.mem_set (by omega) _)
   rw [hm] at hN
   obtain ⟨cc,fr⟩:=hN.out.out.word 0 (by omega)
   rw [ha] at cc
   have hN1:=hN.out.set 0 (a + 19 * c)
   rw [← hend] at hN1
   obtain ⟨s,hs⟩:∃ s,endF x y = s:=⟨_,rfl⟩
   rw [hs] at hN1 hsb HV
   have hsl:s.length = 5:=by rw [← hs,hend,List.length_set,hml]
   have e1:IntKind.u64.wrap ((a:Int) + 19 * (c:Int)) = ((a + 19 * c:Nat):Int):=by rw [IntKind.wrap_u64];omega
   obtain ⟨W1,hW1⟩:∃ W1,wr.setCell ⟨w.heap.size + 1 + 1 + 1,0,none⟩ (.int .u64 (IntKind.u64.wrap ((a:Int) + 19 * (c:Int)))) = W1:=⟨_,rfl⟩
   have HN1:Hid (F4 w x y s W1):=by rw [← hW1,e1];exact hN1
   have HW1:Hid (wr.setCell ⟨w.heap.size + 1 + 1 + 1,0,none⟩ (.int .u64 (IntKind.u64.wrap ((a:Int) + 19 * (c:Int)))) = W1):=hW1
   have IS:Hid ((Tryz.prog.info? 96).map (·.size) = some (s.map nf).toArray.size):=nf_info s hsl
   have HSb:Hid (∀ t ∈ s,t < 9223372036854775808):=hsb
   clear hN hN1 hm ha hend hsb hab hs e1 hW1 hc HSB
   go_wp2_with (first | (rw [HW1.out];refine wpList_load_row rfl 96 _ rfl (w.heap.size + 1 + 1 + 1) rfl 96 _ (0,0) _ HN1.out.out Tryz.underlying96 rfl IS.out ?_) | fail)
   refine (fcarry_any s W1 hsl HSb.out).mono ?_
   rintro e w8 ⟨rfl,hb8⟩
   have hN8:=HN1.out.later hb8
   obtain ⟨c',hcc⟩:∃ c',carF s = c':=⟨_,rfl⟩
   have hcl:c'.length = 5:=by rw [← hcc,carF_length,hsl]
   rw [hcc] at HV ⊢
   have IC:Hid ((Tryz.prog.info? 96).map (·.size) = some (c'.map nf).toArray.size):=nf_info c' hcl
   have hst:=store_row w8 (w.heap.size + 1 + 1) _ _ (c'.map nf) hN8.res (by simp [hcl]) (nf_oneCell c')
   have hrow:=setRow_heap w8 (w.heap.size + 1 + 1) _ (c'.map nf).toArray _ _ hN8.res
   have HBel:Hid (Below w.heap.size w (w8.setRow (w.heap.size + 1 + 1) (c'.map nf).toArray)):=below_setRow hN8.bel (by omega) _
   obtain ⟨W4,hW4⟩:∃ W4,w8.setRow (w.heap.size + 1 + 1) (c'.map nf).toArray = W4:=⟨_,rfl⟩
   rw [hW4] at hst hrow HBel
   have HRow:Hid (W4.heap[w.heap.size + 1 + 1]? = some (.cells (c'.map nf).toArray 96 (0,0))):=hrow
   clear hrow hW4 hN8 HN1 hb8 hcc
   go_wp2
   (try simp only [Exit.inBlock,Exit.then])
   refine bodyPost_ret (results_cell_row rfl _ _ (w.heap.size + 1 + 1) 96 _ (0,0) _ rfl HRow.out Tryz.underlying96 rfl IC.out) rfl ?_
   exact ⟨c'.map nf,rfl,HV.out,HBel.out⟩
def D5 (w:World) (g:Nat) (l:List Nat):Prop:=w.heap[g]? = some (.cells (l.map nf).toArray 94 (0,0))
theorem D5.lt {w:World} {g:Nat} {l:List Nat} (h:D5 w g l):g < w.heap.size:=(Array.getElem?_eq_some_iff.1 h).1
theorem D5.later {w w':World} {g:Nat} {l:List Nat} (h:D5 w g l) (hb:Below w.heap.size w w'):D5 w' g l:=by
 unfold D5
 rw [hb.block g h.lt]
 exact h
theorem D5.word {w:World} {g:Nat} {l:List Nat} (h:D5 w g l) (i:Nat) (hi:i < l.length):w.cell? ⟨g,i,none⟩ = some (.int .u64 (atD l i:Int)):=by
 rw [cell_of_row w g i _ _ (0,0) h,atD_get l i hi]
 simp [hi,nf]
theorem run_digits (W:World) (cs:Array Value) (h:cs.size = 5):(Instr.field 96 (.agg cs) 0).run Tryz.prog W = .ok (.agg cs) W:=by
 have hu:Tryz.prog.underlying 94 = some (.array 5 40):=Tryz.underlying94
 have hi:(Tryz.prog.info? 94).map (·.size) = some 5:=by kernel_rfl
 have hagg:(isAgg 94).run Tryz.prog W = .ok true W:=by
  unfold isAgg
  rw [Sem.run_bind,run_underlying hu W]
  simp
 unfold Instr.field
 rw [Sem.run_bind,run_underlying Tryz.underlying96 W]
 simp [part,Sem.run_bind,hagg,asAgg,← h]
theorem hidup5 {p:Prop} (h:p):Hid p:=h
def zero32F:Array Value:=(List.replicate 32 (Value.int .u8 0)).toArray
structure FY (w:World) (g:Nat) (l:List Nat) (W:World):Prop where
 res:W.heap[w.heap.size + 1]? = some (.cells zero32F 24 (0,0))
 dig:D5 W g l
 bel:Below w.heap.size w W
theorem FY.later {w W W':World} {g:Nat} {l:List Nat} (t:FY w g l W) (hb:Below W.heap.size W W'):FY w g l W':=
 ⟨by rw [hb.block _ (Array.getElem?_eq_some_iff.1 t.res).1];exact t.res,t.dig.later hb,t.bel.trans (hb.mono t.bel.size)⟩
theorem byt_part {W:World} {b off n:Nat} {l:List UInt8} (h:Byt W (some ⟨b,off,none⟩) n l):∀ j v,(l.map bv)[j]? = some v → W.cell? ⟨b,off + j,none⟩ = some v:=by
 intro j v hv
 have h1:=h.cells _ rfl j v hv
 have hadd:(⟨b,off,none⟩:Addr).add j = ⟨b,off + j,none⟩:=by unfold Addr.add;split <;> simp_all
 rw [hadd] at h1
 exact h1
theorem word_or (l:List Nat) (hl:l.length = 5) (hb:∀ x ∈ l,x < 2251799813685248) (k:Nat) (hk:k < 4) (a b s t:Nat) (ha:atD l k = a) (hb':atD l (k + 1) = b) (hs:13 * k = s) (ht:51 - s = t) :
  bits .or .u64 ((a:Int) / 2 ^ s) (IntKind.u64.wrap ((b:Int) * 2 ^ t)) = ((valF l / 18446744073709551616 ^ k % 18446744073709551616:Nat):Int):=by
 have h1:=word_two l hl hb k hk
 rw [ha,hb',hs,ht] at h1
 have h2:a < 2251799813685248:=by rw [← ha];exact atD_bound l _ (by decide) hb k
 have h3:b < 2251799813685248:=by rw [← hb'];exact atD_bound l _ (by decide) hb (k + 1)
 rw [← h1]
 have:k = 0 ∨ k = 1 ∨ k = 2 ∨ k = 3:=by omega
 rcases this with rfl | rfl | rfl | rfl
 ·obtain rfl:s = 0:=by omega
  obtain rfl:t = 51:=by omega
  have e0:(a:Int) / 2 ^ 0 = ((a / 2 ^ 0:Nat):Int):=by simp
  rw [e0,or_add (a / 2 ^ 0) (b % 8192) 51 _ (by rw [IntKind.wrap_u64];omega) (by omega) (by omega)]
  omega
 ·obtain rfl:s = 13:=by omega
  obtain rfl:t = 38:=by omega
  have e0:(a:Int) / 2 ^ 13 = ((a / 2 ^ 13:Nat):Int):=by simp
  rw [e0,or_add (a / 2 ^ 13) (b % 67108864) 38 _ (by rw [IntKind.wrap_u64];omega) (by omega) (by omega)]
  omega
 ·obtain rfl:s = 26:=by omega
  obtain rfl:t = 25:=by omega
  have e0:(a:Int) / 2 ^ 26 = ((a / 2 ^ 26:Nat):Int):=by simp
  rw [e0,or_add (a / 2 ^ 26) (b % 549755813888) 25 _ (by rw [IntKind.wrap_u64];omega) (by omega) (by omega)]
  omega
 ·obtain rfl:s = 39:=by omega
  obtain rfl:t = 12:=by omega
  have e0:(a:Int) / 2 ^ 39 = ((a / 2 ^ 39:Nat):Int):=by simp
  rw [e0,or_add (a / 2 ^ 39) b 12 _ (by rw [IntKind.wrap_u64];omega) (by omega) (by omega)]
  omega
set_option maxHeartbeats 2000000 in
set_option maxRecDepth 100000 in
theorem fbytes_any (A:List Value) (x:Nat) (w:World) (hA:Elm A x) :
  Calls Tryz.prog 61 #[.agg A.toArray] w fun e w' => e = .returned (.agg ((leB 32 x).map bv).toArray) ∧ Below w.heap.size w w':=by
 obtain ⟨l,rfl,hE,hx⟩:=hA.dig
 obtain ⟨v1,v2,v3⟩:=lesF_val l hE
 rw [hx] at v1
 obtain ⟨a0,a1,a2,a3,a4,hd⟩:=five (lesF l) v2
 rw [hd] at v1 v3
 have hl:=hE.len
 have IL:Hid ((Tryz.prog.info? 96).map (·.size) = some (l.map nf).toArray.size):=nf_info l hl
 have HL:Hid (∀ w,Calls Tryz.prog 90 #[.agg (l.map nf).toArray] w fun e w' => e = .returned (.agg #[.int .u64 (a0:Int),.int .u64 (a1:Int),.int .u64 (a2:Int),.int .u64 (a3:Int),.int .u64 (a4:Int)]) ∧ Below w.heap.size w w'):=fun w => by
  have:=fleast_any l w hE
  rw [hd] at this
  exact this
 have HV:Hid (valF [a0,a1,a2,a3,a4] = x):=v1
 have HB:Hid (∀ t ∈ [a0,a1,a2,a3,a4],t < 2251799813685248):=v3
 have HN0:Hid (Nf ((w.alloc (.cells (l.map nf).toArray 96)).alloc (.cells zero32F 24)) w.heap.size l):=Nf.alloc (heap_alloc_new w _) _
 have HR0:Hid (((w.alloc (.cells (l.map nf).toArray 96)).alloc (.cells zero32F 24)).heap[w.heap.size + 1]? = some (.cells zero32F 24 (0,0))):=by
  have:=heap_alloc_new (w.alloc (.cells (l.map nf).toArray 96)) (.cells zero32F 24)
  rw [World.size_alloc] at this
  exact this
 have HW0:Hid (Below w.heap.size w ((w.alloc (.cells (l.map nf).toArray 96)).alloc (.cells zero32F 24))):=((Below.refl _ _).alloc (Nat.le_refl _) _).alloc (by simp) _
 clear hA hE hx v1 v2 v3 hd
 go_enter Tryz.func61,Tryz.ntmps61
 go_wp2_with (first | refine wpList_load_row rfl 96 _ rfl w.heap.size rfl 96 _ (0,0) _ HN0.out Tryz.underlying96 rfl IL.out ?_ | fail)
 refine (HL.out _).mono ?_
 rintro e W1 ⟨rfl,hb1⟩
 have hD:D5 (W1.alloc (.cells ([a0,a1,a2,a3,a4].map nf).toArray 94)) W1.heap.size [a0,a1,a2,a3,a4]:=heap_alloc_new W1 _
 have hbx:=hb1.alloc hb1.size (.cells ([a0,a1,a2,a3,a4].map nf).toArray 94)
 have HY0:Hid (FY w W1.heap.size [a0,a1,a2,a3,a4] (W1.alloc (.cells ([a0,a1,a2,a3,a4].map nf).toArray 94))):=
  ⟨by rw [hbx.block _ (by simp)];exact HR0.out,hD,HW0.out.trans (hbx.mono HW0.out.size)⟩
 have hfd:=run_digits W1 #[.int .u64 (a0:Int),.int .u64 (a1:Int),.int .u64 (a2:Int),.int .u64 (a3:Int),.int .u64 (a4:Int)] rfl
 clear hD hbx hb1 HN0 HR0 HW0 HL
 go_wp2
 refine from_world (P:=Code.wp Tryz.prog _ _ _) (R:=fun W => Hid (FY w W1.heap.size [a0,a1,a2,a3,a4] W)) _ HY0 ?_
 clear HY0 hfd
 intro W2 HY0
 generalize W1.heap.size = gd at *
 have hB0:Hid (Byt W2 none 0 (wds x 0)):=⟨rfl,.inl rfl⟩
 go_loopw [4,10] (fun o i wr => ∃ (k n:Nat) (a:Option Addr) (cap:Nat),k ≤ 4 ∧ 8 * k = n ∧ i = .int .i64 k ∧ o = .slice a n cap ∧ Hid (Byt wr a n (wds x k)) ∧ Hid (FY w gd [a0,a1,a2,a3,a4] wr)) (fun _ i _ => 4 - (intOf i).toNat)
 case atStart => exact ⟨0,0,none,0,by omega,rfl,rfl,rfl,hB0,HY0⟩
 case round =>
  clear HY0 hB0
  obtain ⟨k,n,a,cap,hk,hn,rfl,rfl,HBy,HY⟩:=hrel
  by_cases hlt:k < 4
  ·have hki:(k:Int) < 4:=by omega
   obtain ⟨s,hs⟩:∃ s,13 * k = s:=⟨_,rfl⟩
   obtain ⟨t,ht⟩:∃ t,51 - s = t:=⟨_,rfl⟩
   obtain ⟨k1,hk1⟩:∃ k1,k + 1 = k1:=⟨_,rfl⟩
   obtain ⟨u,hu⟩:∃ u,atD [a0,a1,a2,a3,a4] k = u:=⟨_,rfl⟩
   obtain ⟨v,hv⟩:∃ v,atD [a0,a1,a2,a3,a4] k1 = v:=⟨_,rfl⟩
   obtain ⟨m,hm⟩:∃ m,valF [a0,a1,a2,a3,a4] / 18446744073709551616 ^ k % 18446744073709551616 = m:=⟨_,rfl⟩
   have EO0:=word_or [a0,a1,a2,a3,a4] rfl HB.out k hlt u v s t hu (by rw [hk1];exact hv) hs ht
   rw [hm] at EO0
   have EO:Hid _:=EO0
   clear EO0
   have HM:Hid (wds x (k + 1) = wds x k ++ putB 8 m false):=by
    show _ = _
    rw [wds,← HV.out,hm]
    rfl
   have HU:Hid (∀ w',Below wr.drew.heap.size wr.drew w' → w'.cell? ⟨gd,k,none⟩ = some (.int .u64 (u:Int))):=fun w' hw' => by
    have:=((HY.out.later (W':=wr.drew) (Below.refl _ _).drew).later hw').dig.word k (by simp;omega)
    rw [hu] at this
    exact this
   have HV1:Hid (∀ w',Below wr.drew.heap.size wr.drew w' → w'.cell? ⟨gd,k1,none⟩ = some (.int .u64 (v:Int))):=fun w' hw' => by
    have:=((HY.out.later (W':=wr.drew) (Below.refl _ _).drew).later hw').dig.word k1 (by simp;omega)
    rw [hv] at this
    exact this
   have e1:(k:Int) * 13 = (s:Int):=by omega
   have e2:IntKind.i64.wrap (51 - (s:Int)) = (t:Int):=by rw [IntKind.wrap_i64];omega
   have e3:IntKind.i64.wrap ((k:Int) + 1) = (k1:Int):=by rw [IntKind.wrap_i64];omega
   have hk15:(k1:Int) < 5:=by omega
   have hk5:(k:Int) < 5:=by omega
   have ht64:t < 64:=by omega
   have hs64:s < 64:=by omega
   obtain ⟨W,hWd⟩:∃ W,wr.drew = W:=⟨_,rfl⟩
   have HWd:Hid (wr.drew = W):=hWd
   have HYd:=hidup5 (HY.out.later (W':=W) (by rw [← hWd];exact (Below.refl _ _).drew))
   have HBd:=hidup5 (HBy.out.later (w':=W) (by rw [← hWd];exact (Below.refl _ _).drew))
   rw [hWd] at HU HV1
   clear hWd HY HBy hs ht hu hv hm
   go_wp2_with fail
   refine wp_region_sched' (G:=Grows) (by kernel_rfl) Grows.refl Grows.trans (by kernel_rfl) [(0,true),(1,true),(2,true),(3,true),(4,true),(5,true),(6,true),(7,true),(8,true),(9,true),(10,true),(11,true),(12,true),(13,true),(14,false),(15,true)] rfl (by kernel_rfl) ?_
   intro KK hKK
   rw [HWd.out]
   clear HWd
   iterate 3 (refine sched_take rfl (by rfl) (v:=?_) ?_ ?_;rotate_left;(intro w' hw';clear hw';go_simp;with_reducible rfl);go_simp)
   refine sched_take rfl (by rfl) (v:=?_) ?_ ?_;rotate_left;(intro w' hw';have cu:=HU.out w' hw';clear hw';go_simp;with_reducible rfl);go_simp
   iterate 5 (refine sched_take rfl (by rfl) (v:=?_) ?_ ?_;rotate_left;(intro w' hw';clear hw';go_simp;with_reducible rfl);go_simp)
   refine sched_take rfl (by rfl) (v:=?_) ?_ ?_;rotate_left;(intro w' hw';have cu:=HV1.out w' hw';clear hw';go_simp;with_reducible rfl);go_simp
   iterate 3 (refine sched_take rfl (by rfl) (v:=?_) ?_ ?_;rotate_left;(intro w' hw';clear hw';go_simp;with_reducible rfl);go_simp)
   refine sched_take rfl (by rfl) (v:=.int .u64 (m:Int)) (fun w' hw' => by clear hw';go_simp;rw [EO.out]) ?_
   go_simp
   refine sched_call (f:=91) (args:=#[.slice a n cap,.int .i64 8,.int .u64 (m:Int),.bool false]) rfl (by rfl) (by go_simp) ?_
   refine (put_any a n cap 8 m false (wds x k) W (by omega) HBd.out 8 (by decide)).mono ?_
   rintro e w8 ⟨g,rfl,hg,hb8,hB8⟩
   refine ⟨_,rfl,hb8,?_⟩
   have HB8:Hid (Byt w8 (some ⟨g,0,none⟩) (n + 8) (wds x (k + 1))):=by rw [HM.out];exact hB8
   have HY8:=hidup5 (HYd.out.later hb8)
   clear hb8 hB8 HYd HBd
   go_simp
   refine sched_take rfl (by rfl) (v:=?_) ?_ ?_;rotate_left;(intro w' hw';clear hw';go_simp;with_reducible rfl);go_simp
   refine sched_done hKK ?_
   clear hKK
   go_wp2
   exact ⟨⟨k + 1,n + 8,some ⟨g,0,none⟩,n + 8,by omega,by omega,by go_num,rfl,HB8,HY8⟩,by simp [intOf];omega⟩
  ·have ek:k = 4:=by omega
   subst ek
   obtain rfl:n = 32:=by omega
   have hkr:¬ ((4:Nat):Int) < 4:=by omega
   rw [wds_all] at HBy
   obtain ⟨b,off,rfl,_⟩:=HBy.out.at_ 0 (by omega)
   obtain ⟨L,hL⟩:∃ L,leB 32 x = L:=⟨_,rfl⟩
   have hLl:L.length = 32:=by rw [← hL,leB_length]
   have HBy2:Hid (Byt wr (some ⟨b,off,none⟩) 32 L):=by rw [← hL];exact HBy.out
   have hI:Hid ((Tryz.prog.info? 24).map (·.size) = some (L.map bv).toArray.size):=info_size (n:=32) (by kernel_rfl) L hLl
   have hI2:Hid ((Tryz.prog.info? 24).map (·.size) = some (L.map bv).length):=by rw [List.length_map,hLl];show _ = _;kernel_rfl
   have hst2:=store_row wr (w.heap.size + 1) _ _ (L.map bv) HY.out.res (by simp [hLl,zero32F]) (bv_oneCell L)
   have hrow:=setRow_heap wr (w.heap.size + 1) _ (L.map bv).toArray _ _ HY.out.res
   have HBel:Hid (Below w.heap.size w (wr.setRow (w.heap.size + 1) (L.map bv).toArray)):=below_setRow HY.out.bel (by omega) _
   obtain ⟨W4,hW4⟩:∃ W4,wr.setRow (w.heap.size + 1) (L.map bv).toArray = W4:=⟨_,rfl⟩
   rw [hW4] at hst2 hrow HBel
   have HRow:Hid (W4.heap[w.heap.size + 1]? = some (.cells (L.map bv).toArray 24 (0,0))):=hrow
   have HL:Hid (leB 32 x = L):=hL
   have hat:(Instr.arrayAt 24 (.slice (some ⟨b,off,none⟩) 32 cap)).run Tryz.prog wr = .ok (.pointer (some ⟨b,off,none⟩)) wr:=by simp [Instr.arrayAt,run_underlying Tryz.underlying24]
   clear hrow hW4 hL HBy
   go_wp2_with (first | refine wpList_load_part rfl 24 _ rfl b off rfl (L.map bv) _ (byt_part HBy2.out) Tryz.underlying24 rfl hI2.out ?_)
   (try simp only [Exit.inBlock,Exit.then])
   refine bodyPost_ret (results_cell_row rfl _ _ (w.heap.size + 1) 24 _ (0,0) _ rfl HRow.out Tryz.underlying24 rfl hI.out) rfl ?_
   exact ⟨by rw [HL.out],HBel.out⟩
set_option maxHeartbeats 1000000 in
set_option maxRecDepth 100000 in
theorem fsquares_any (n:Nat) (x:Nat) (e e':Nat) (A:List Value) (w:World) (hn:n < 1000) (hA:Elm A (pw x e)) (he:e * 2 ^ n = e') :
  Calls Tryz.prog 89 #[.agg A.toArray,.int .i64 (n:Int)] w fun r w' => ∃ cs,r = .returned (.agg cs.toArray) ∧ Elm cs (pw x e') ∧ Below w.heap.size w w':=by
 obtain ⟨l,rfl,hE,hx⟩:=hA.dig
 have HN0:Hid (FB w w.heap.size (w.heap.size + 1) l ((w.alloc (.cells (l.map nf).toArray 96)).alloc (.cells #[.int .u64 0,.int .u64 0,.int .u64 0,.int .u64 0,.int .u64 0] 96))):=FB.new1 w l
 have HE0:Hid (Elm (l.map nf) (pw x (e * 2 ^ 0))):=by rw [Nat.pow_zero,Nat.mul_one];exact hA
 have hl:=hE.len
 have HE':Hid (e * 2 ^ n = e'):=he
 clear hE hx hA he
 go_enter Tryz.func89,Tryz.ntmps89
 go_wp2
 refine from_world (P:=Code.wp Tryz.prog _ _ _) (R:=fun W => Hid (FB w w.heap.size (w.heap.size + 1) l W)) _ HN0 ?_
 intro W0 hN0
 clear HN0
 go_loopw [6] (fun i wr => ∃ (k:Nat) (m:List Nat),k ≤ n ∧ m.length = 5 ∧ i = .int .i64 k ∧ Hid (Elm (m.map nf) (pw x (e * 2 ^ k))) ∧ Hid (FB w w.heap.size (w.heap.size + 1) m wr)) (fun i _ => n - (intOf i).toNat)
 case atStart => exact ⟨0,l,by omega,hl,rfl,HE0,hN0⟩
 case round =>
  clear hN0 HE0 hl
  obtain ⟨k,m,hk,hml,rfl,hE,hN⟩:=hrel
  have IM:Hid ((Tryz.prog.info? 96).map (·.size) = some (m.map nf).toArray.size):=nf_info m hml
  by_cases hlt:k < n
  ·have hki:(k:Int) < (n:Int):=by omega
   go_wp2_with (first | refine wpList_load_row rfl 96 _ rfl w.heap.size rfl 96 _ (0,0) _ hN.out.now Tryz.underlying96 rfl IM.out ?_ | fail)
   refine (fmul_any (m.map nf) (m.map nf) _ _ wr hE.out hE.out).mono ?_
   rintro r w8 ⟨cs,rfl,hc,hb8⟩
   rw [pw_double,Nat.mul_assoc,← Nat.pow_succ] at hc
   obtain ⟨c,rfl,hEc,_⟩:=hc.dig
   have hcl:=hEc.len
   have hN8:=hN.out.later hb8
   have hst:=store_row w8 w.heap.size _ _ (c.map nf) hN8.now (by simp [hcl,hml]) (nf_oneCell c)
   have HN9:Hid (FB w w.heap.size (w.heap.size + 1) c (w8.setRow w.heap.size (c.map nf).toArray)):=hN8.put c
   have HE9:Hid (Elm (c.map nf) (pw x (e * 2 ^ (k + 1)))):=hc
   obtain ⟨W9,hW9⟩:∃ W9,w8.setRow w.heap.size (c.map nf).toArray = W9:=⟨_,rfl⟩
   rw [hW9] at hst HN9
   clear hc hEc hN8 hb8 hN hE hW9
   go_wp2
   exact ⟨⟨k + 1,c,by omega,hcl,by go_num,HE9,HN9⟩,by simp [intOf];omega⟩
  ·have ek:k = n:=by omega
   subst ek
   have hkr:¬ (k:Int) < (k:Int):=by omega
   rw [HE'.out] at hE
   have hst2:=store_row wr (w.heap.size + 1) _ _ (m.map nf) hN.out.res (by simp [hml]) (nf_oneCell m)
   have hrow:=setRow_heap wr (w.heap.size + 1) _ (m.map nf).toArray _ _ hN.out.res
   have HBel:Hid (Below w.heap.size w (wr.setRow (w.heap.size + 1) (m.map nf).toArray)):=below_setRow hN.out.bel hN.out.br _
   obtain ⟨W4,hW4⟩:∃ W4,wr.setRow (w.heap.size + 1) (m.map nf).toArray = W4:=⟨_,rfl⟩
   rw [hW4] at hst2 hrow HBel
   have HRow:Hid (W4.heap[w.heap.size + 1]? = some (.cells (m.map nf).toArray 96 (0,0))):=hrow
   clear hrow hW4
   go_wp2_with (first | refine wpList_load_row rfl 96 _ rfl w.heap.size rfl 96 _ (0,0) _ hN.out.now Tryz.underlying96 rfl IM.out ?_)
   (try simp only [Exit.inBlock,Exit.then])
   refine bodyPost_ret (results_cell_row rfl _ _ (w.heap.size + 1) 96 _ (0,0) _ rfl HRow.out Tryz.underlying96 rfl IM.out) rfl ?_
   exact ⟨m.map nf,rfl,hE.out,HBel.out⟩
theorem hidup {p:Prop} (h:p):Hid p:=h
def Cel (W:World) (g:Nat) (vs:List Value):Prop:=W.heap[g]? = some (.cells vs.toArray 96 (0,0))
theorem Cel.lt {w:World} {g:Nat} {l:List Value} (h:Cel w g l):g < w.heap.size:=(Array.getElem?_eq_some_iff.1 h).1
theorem Cel.later {w w':World} {g:Nat} {l:List Value} (h:Cel w g l) (hb:Below w.heap.size w w'):Cel w' g l:=by
 unfold Cel
 rw [hb.block g h.lt]
 exact h
theorem Cel.below {B:Nat} {w w':World} {g:Nat} {l:List Value} (h:Cel w g l) (hb:Below B w w') (hg:g < B):Cel w' g l:=by
 unfold Cel
 rw [hb.block g hg]
 exact h
theorem Cel.put_other {w:World} {g g':Nat} {l:List Value} (h:Cel w g l) (hne:g ≠ g') (cs:Array Value):Cel (w.setRow g' cs) g l:=by
 unfold Cel
 rw [setRow_other _ _ _ _ hne]
 exact h
theorem Arr.put_other {w:World} {g g':Nat} {t:TypeId} {l:List UInt8} (h:Arr w g t l) (hne:g ≠ g') (cs:Array Value):Arr (w.setRow g' cs) g t l:=by
 unfold Arr
 rw [setRow_other _ _ _ _ hne]
 exact h
theorem zeroE_len:zeroE.length = 5:=by decide
theorem Cel.new (w:World) (l:List Value):Cel (w.alloc (.cells l.toArray 96)) w.heap.size l:=heap_alloc_new w _
theorem elm_info {cs:List Value} {x:Nat} (h:Elm cs x):(Tryz.prog.info? 96).map (·.size) = some cs.toArray.size:=by
 have e1:(Tryz.prog.info? 96).map (·.size) = some 5:=by kernel_rfl
 rw [e1];simp [h.len]
theorem elm_store (w:World) {cs:List Value} {x:Nat} (h:Elm cs x) (c:Array Value) (hc:c.size = 5) :
  (storeCells ⟨w.heap.size,0,none⟩ cs).run Tryz.prog (w.alloc (.cells c 96)) = .ok () (w.alloc (.cells cs.toArray 96)):=
 run_store_new w 96 cs 5 h.len (by kernel_rfl) h.one c hc
theorem leB_zero:∀ k,leB k 0 = List.replicate k 0
 | 0 => rfl
 | k + 1 => by rw [leB,Nat.zero_div,leB_zero k,List.replicate_succ];rfl
end Go.Proofs.YthmkhdnnljdglaaGreatDoor
