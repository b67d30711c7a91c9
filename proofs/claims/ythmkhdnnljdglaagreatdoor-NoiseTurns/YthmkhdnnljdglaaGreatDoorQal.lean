import Derived.Test.YthmkhdnnljdglaaGreatDoorQaj
import Derived.Test.YthmkhdnnljdglaaGreatDoorQaa
import Derived.ChangeSame
import Derived.Test.YthmkhdnnljdglaaGreatDoorQah
namespace Go.Proofs.YthmkhdnnljdglaaGreatDoor
set_option maxRecDepth 100000
open Go.ChangeShapes Go.WideShapes
section
variable {H:Type} {enc:TypeId × Value → H} {P:Program} {k e:TypeId} {n:Nat} {q:IntKind} {W:World} {base:Nat} {sp:Nat → Bool} {held:Bool}
theorem arr_elems (he:P.underlying e = some (.int q)) {m:Nat} {cs:List Value} {c:Nat}:∀ (L:List Nat) (xs:List (DataW H × List MemPlace)),
  L.mapM (fun i => DataW.trod enc P W base sp held m e ((cs.drop (i * c)).take c)) = some xs → ∀ i ∈ L,∃ z,(cs.drop (i * c)).take c = [.int q z] ∧ (Lit.int q z).wf = true
 | [],_,_ => by simp
 | j :: L,xs,h => by
  rw [List.mapM_cons] at h
  simp only [bind,Option.bind_eq_some_iff,pure,Option.some.injEq] at h
  obtain ⟨y,hy,ys,hys,rfl⟩:=h
  intro i hi
  rcases List.mem_cons.1 hi with rfl | hi
  ·obtain ⟨a,ea,_,wa⟩:=DataW.trod_int he hy
   exact ⟨a,ea,wa⟩
  ·exact arr_elems he L ys hys i hi
theorem open_barr (hu:P.underlying k = some (.array n e)) (he:P.underlying e = some (.int .u8)) (hone:P.cellsOf e = 1) (hsize:P.cellsOf k = n) {r:Reach} {b0:Nat} {v:Value} (hval:Value.okWide P W r b0 k v)
  {d:DataW H} {ps:List MemPlace} (hd:DataW.Trod enc P W base sp held k v d ps):∃ l:List UInt8,l.length = n ∧ v = .agg (l.map bv).toArray:=by
 obtain ⟨xs,rfl,hn⟩:∃ xs:Array Value,v = .agg xs ∧ xs.size = n:=by
  simp only [Value.okWide,hu] at hval
  obtain ⟨cs,h1,h2,_⟩:=hval
  exact ⟨cs,h1,by rw [h2,hsize]⟩
 obtain ⟨fuel,hf⟩:=hd
 cases fuel with
 | zero => simp [DataW.trod] at hf
 | succ m =>
  rw [DataW.trod_step] at hf
  unfold DataW.trodStep at hf
  simp only [hu,Value.cells] at hf
  rw [if_pos (by rw [hsize];simpa using hn)] at hf
  simp only [Option.map_eq_some_iff] at hf
  obtain ⟨ys,hy,_⟩:=hf
  have hel:=arr_elems he _ ys hy
  rw [hone] at hel
  have hc:∀ i (hi:i < n),∃ c:UInt8,xs[i]'(by omega) = bv c:=by
   intro i hi
   obtain ⟨z,hz,hw⟩:=hel i (by simpa using hi)
   have hb:0 ≤ z ∧ z ≤ 255:=by simpa [Lit.wf,IntKind.min,IntKind.max,IntKind.signed,IntKind.bits] using hw
   refine ⟨UInt8.ofNat z.toNat,?_⟩
   have hg:xs.toList[i]'(by simp;omega) = .int .u8 z:=by
    have:=congrArg (·[0]?) hz
    simp at this
    have h2:i < xs.size:=by omega
    simpa [List.getElem?_take,h2] using this
   rw [Array.getElem_toList] at hg
   rw [hg,bv]
   congr 1
   simp
   omega
  refine ⟨(List.range n).map fun i => if h:i < n then (hc i h).choose else 0,by simp,?_⟩
  congr 1
  apply Array.ext
  ·simp [hn]
  ·intro i h1 h2
   have hi:i < n:=by omega
   simp [hi]
   exact (hc i hi).choose_spec
end
end Go.Proofs.YthmkhdnnljdglaaGreatDoor
namespace Go.Proofs.YthmkhdnnljdglaaGreatDoor
set_option linter.unusedVariables false
set_option maxRecDepth 100000
open Go.RowKit
def Wds (w:World) (g:Nat) (l:List (BitVec 32)):Prop:=w.heap[g]? = some (.cells (l.map uv).toArray 197 (0,0))
theorem Wds.set {w:World} {g:Nat} {l:List (BitVec 32)} (h:Wds w g l) (i:Nat) (x:BitVec 32):Wds (w.setCell ⟨g,i,none⟩ (uv x)) g (l.set i x):=by
 have:=heap_setCell_same w g i _ _ (uv x) h
 unfold Wds
 rw [this,List.map_set]
 simp
theorem Wds.drew {w:World} {g:Nat} {l:List (BitVec 32)} (h:Wds w g l):Wds w.drew g l:=h
theorem Wds.word {w:World} {g:Nat} {l:List (BitVec 32)} (h:Wds w g l) (i:Nat) (hi:i < l.length) :
  w.cell? ⟨g,i,none⟩ = some (.int .u32 ((at32 l i).toNat:Int)) ∧ w.frozen? ⟨g,i,none⟩ = false:=by
 refine ⟨?_,frozen_of_row w g i _ _ h⟩
 rw [cell_of_row w g i _ _ (0,0) h,at32_get l i hi]
 simp [hi,uv]
theorem Wds.lt {w:World} {g:Nat} {l:List (BitVec 32)} (h:Wds w g l):g < w.heap.size:=(Array.getElem?_eq_some_iff.1 h).1
theorem Wds.later {w w':World} {g:Nat} {l:List (BitVec 32)} (h:Wds w g l) (hb:Below w.heap.size w w'):Wds w' g l:=by
 unfold Wds
 rw [hb.block g h.lt]
 exact h
theorem xor_val32 (y z:BitVec 32):bits .xor .u32 (y.toNat:Int) (z.toNat:Int) = ((y ^^^ z).toNat:Int):=xor_val y z
set_option maxHeartbeats 2000000 in
set_option maxRecDepth 100000 in
theorem mix_any (g:Nat) (l:List (BitVec 32)) (a b d:Nat) (s:Int) (w:World) (hS:Wds w g l) (ha:a < l.length) (hb:b < l.length) (hd:d < l.length) (had:a ≠ d) :
  Calls Tryz.prog 173 #[.pointer (some ⟨g,a,none⟩),.pointer (some ⟨g,b,none⟩),.pointer (some ⟨g,d,none⟩),.int .i64 s] w fun e w' => (∃ v,e = .returned v) ∧ Wds w' g (qhalf l a b d s) ∧ w.grownBy w' (some g):=by
 obtain ⟨ca,fa⟩:=hS.word a ha
 obtain ⟨cb,fb⟩:=hS.word b hb
 obtain ⟨x,hx⟩:∃ x,at32 l a + at32 l b = x:=⟨_,rfl⟩
 have HV:Hid ((((at32 l a).toNat:Int) + ((at32 l b).toNat:Int)) % 4294967296 = (x.toNat:Int)):=by show _ = _;rw [sum_val,hx]
 have HS1:Hid (Wds (w.drew.setCell ⟨g,a,none⟩ (uv x)) g (l.set a x)):=hS.drew.set a _
 obtain ⟨W0,hW0⟩:∃ W0,w.drew = W0:=⟨_,rfl⟩
 rw [hW0] at HS1
 obtain ⟨W,hW⟩:∃ W,W0.setCell ⟨g,a,none⟩ (uv x) = W:=⟨_,rfl⟩
 rw [hW] at HS1
 have ca0:W0.cell? ⟨g,a,none⟩ = some (.int .u32 ((at32 l a).toNat:Int)):=by rw [← hW0];exact ca
 have cb0:W0.cell? ⟨g,b,none⟩ = some (.int .u32 ((at32 l b).toNat:Int)):=by rw [← hW0];exact cb
 have fa0:W0.frozen? ⟨g,a,none⟩ = false:=by rw [← hW0];exact fa
 obtain ⟨cd,fd⟩:=HS1.out.word d (by simpa using hd)
 obtain ⟨ca2,fa2⟩:=HS1.out.word a (by simpa using ha)
 rw [at32_set_same _ _ _ ha] at ca2
 rw [at32_set_other _ _ _ _ had] at cd
 obtain ⟨W1,hW1⟩:∃ W1,W.drew = W1:=⟨_,rfl⟩
 obtain ⟨y,hy⟩:∃ y,at32 l d ^^^ x = y:=⟨_,rfl⟩
 have HY:Hid (bits .xor .u32 ((at32 l d).toNat:Int) (x.toNat:Int) = (y.toNat:Int)):=by show _ = _;rw [xor_val32,hy]
 obtain ⟨W2,hW2⟩:∃ W2,W1.setCell ⟨g,d,none⟩ (uv (rotl y s)) = W2:=⟨_,rfl⟩
 have HW2:Hid (W1.setCell ⟨g,d,none⟩ (.int .u32 ((rotl y s).toNat:Int)) = W2):=hW2
 have cd1:W1.cell? ⟨g,d,none⟩ = some (.int .u32 ((at32 l d).toNat:Int)):=by rw [← hW1];exact cd
 have ca1:W1.cell? ⟨g,a,none⟩ = some (.int .u32 (x.toNat:Int)):=by rw [← hW1];exact ca2
 have fd1:W1.frozen? ⟨g,d,none⟩ = false:=by rw [← hW1];exact fd
 have HS2:Hid (Wds W2 g (qhalf l a b d s)):=by
  have h1:=(HS1.out.drew).set d (rotl y s)
  rw [hW1,hW2] at h1
  show Wds _ _ _
  rw [qhalf,hx,hy]
  exact h1
 have HG:Hid (w.grownBy W2 (some g)):=by
  have k1:W.os = w.os ∧ W.tape = w.tape ∧ W.output = w.output ∧ w.heap.size ≤ W.heap.size:=by rw [← hW,← hW0];exact ⟨rfl,rfl,rfl,by simp⟩
  have k2:W2.os = W.os ∧ W2.tape = W.tape ∧ W2.output = W.output ∧ W.heap.size ≤ W2.heap.size:=by rw [← hW2,← hW1];exact ⟨rfl,rfl,rfl,by simp⟩
  refine ⟨k2.1.trans k1.1,k2.2.1.trans k1.2.1,k2.2.2.1.trans k1.2.2.1,Nat.le_trans k1.2.2.2 k2.2.2.2,fun j hj hne => ?_⟩
  have hjg:j ≠ g:=fun e => hne (by rw [e])
  rw [← hW2,heap_setCell_other W1 ⟨g,d,none⟩ j _ hjg,← hW1]
  show W.heap[j]? = _
  rw [← hW,heap_setCell_other W0 ⟨g,a,none⟩ j _ hjg,← hW0]
  rfl
 have HW1:Hid (W.drew = W1):=hW1
 have HW:Hid (W0.setCell ⟨g,a,none⟩ (.int .u32 (x.toNat:Int)) = W):=hW
 have HW0:Hid (w.drew = W0):=hW0
 clear hS hW hx hW0 ca cb fa fb hW1 hW2 hy cd ca2 fd fa2
 go_enter Tryz.func173,Tryz.ntmps173
 go_wp2
 refine wp_region_sched' (G:=Stays) (by kernel_rfl) Stays.refl Stays.trans (by kernel_rfl) [(0,true),(1,true),(2,true),(3,true),(4,true),(5,true),(6,true),(7,true),(8,false)] rfl (by kernel_rfl) ?_
 intro KK hKK
 rw [HW0.out]
 iterate 8 (refine sched_take rfl (by rfl) (v:=?_) ?_ ?_;rotate_left;(rintro w' rfl;go_simp;with_reducible rfl);go_simp)
 refine sched_store rfl (by rfl) (w':=W) (by rw [← HW.out];go_simp;rw [IntKind.wrap_u32,HV.out]) (by kernel_rfl) ?_
 go_simp
 refine sched_done hKK ?_
 go_wp2
 refine wp_region_sched' (G:=Stays) (by kernel_rfl) Stays.refl Stays.trans (by kernel_rfl) [(0,true),(1,true),(2,true),(3,true),(4,true),(5,true),(6,true),(7,true),(8,true),(9,false),(10,true),(11,false)] rfl (by kernel_rfl) ?_
 intro KK2 hKK2
 rw [HW1.out]
 iterate 9 (refine sched_take rfl (by rfl) (v:=?_) ?_ ?_;rotate_left;(rintro w' rfl;go_simp;with_reducible rfl);go_simp)
 refine sched_call (f:=174) (args:=#[.int .u32 (y.toNat:Int),.int .i64 s]) rfl (by rfl) (by go_simp;rw [HY.out]) ?_
 refine (rot_any y s _).mono ?_
 rintro e w' ⟨rfl,rfl⟩
 refine ⟨_,rfl,rfl,?_⟩
 go_simp
 iterate 1 (refine sched_take rfl (by rfl) (v:=?_) ?_ ?_;rotate_left;(rintro w' rfl;go_simp;with_reducible rfl);go_simp)
 refine sched_store rfl (by rfl) (w':=W2) (by rw [← HW2.out];go_simp) (by kernel_rfl) ?_
 go_simp
 refine sched_done hKK2 ?_
 go_wp2
 go_end0
 exact ⟨⟨_,rfl⟩,HS2.out,HG.out⟩
set_option maxHeartbeats 400000 in
set_option maxRecDepth 100000 in
theorem quarter_any (g:Nat) (l:List (BitVec 32)) (a b c d:Nat) (w:World) (hS:Wds w g l) (ha:a < l.length) (hb:b < l.length) (hc:c < l.length) (hd:d < l.length) (had:a ≠ d) (hcb:c ≠ b) :
  Calls Tryz.prog 170 #[.pointer (some ⟨g,a,none⟩),.pointer (some ⟨g,b,none⟩),.pointer (some ⟨g,c,none⟩),.pointer (some ⟨g,d,none⟩)] w fun e w' => (∃ v,e = .returned v) ∧ Wds w' g (qtr l a b c d) ∧ w.grownBy w' (some g):=by
 have HS:Hid (Wds w g l):=hS
 clear hS
 go_enter Tryz.func170,Tryz.ntmps170
 go_wp2_with fail
 refine (mix_any g l a b d 16 _ HS.out ha hb hd had).mono ?_
 rintro e w1 ⟨⟨v,rfl⟩,h1,g1⟩
 have HS1:Hid _:=h1
 have G1:Hid (w.grownBy w1 (some g)):=g1
 clear h1 g1
 go_wp2_with fail
 refine (mix_any g _ c d b 12 _ HS1.out (by simpa [qhalf_length] using hc) (by simpa [qhalf_length] using hd) (by simpa [qhalf_length] using hb) hcb).mono ?_
 rintro e w2 ⟨⟨v,rfl⟩,h2,g2⟩
 have HS2:Hid _:=h2
 have G2:Hid (w1.grownBy w2 (some g)):=g2
 clear h2 g2
 go_wp2_with fail
 refine (mix_any g _ a b d 8 _ HS2.out (by simpa [qhalf_length] using ha) (by simpa [qhalf_length] using hb) (by simpa [qhalf_length] using hd) had).mono ?_
 rintro e w3 ⟨⟨v,rfl⟩,h3,g3⟩
 have HS3:Hid _:=h3
 have G3:Hid (w2.grownBy w3 (some g)):=g3
 clear h3 g3
 go_wp2_with fail
 refine (mix_any g _ c d b 7 _ HS3.out (by simpa [qhalf_length] using hc) (by simpa [qhalf_length] using hd) (by simpa [qhalf_length] using hb) hcb).mono ?_
 rintro e w4 ⟨⟨v,rfl⟩,h4,g4⟩
 have HS4:Hid _:=h4
 have G4:Hid (w3.grownBy w4 (some g)):=g4
 clear h4 g4
 go_wp2
 go_end0
 exact ⟨⟨_,rfl⟩,HS4.out,((G1.out.trans G2.out).trans G3.out).trans G4.out⟩
structure Tur (w:World) (g:Nat) (l:List (BitVec 32)) (wr:World):Prop where
 now:Wds wr g l
 grown:w.grownBy wr (some g)
theorem Tur.next {w wr w':World} {g:Nat} {l l':List (BitVec 32)} (t:Tur w g l wr) (hs:Wds w' g l') (hg:wr.grownBy w' (some g)):Tur w g l' w':=⟨hs,t.grown.trans hg⟩
theorem slant_val (q c d:Nat) (hq:q < 4) (hc:c < 4) (hd:d ≤ 12):IntKind.i64.wrap ((d:Int) + (IntKind.i64.wrap ((q:Int) + (c:Int))).tmod 4) = ((d + (q + c) % 4:Nat):Int):=by
 have h1:IntKind.i64.wrap ((q:Int) + (c:Int)) = ((q + c:Nat):Int):=by rw [IntKind.wrap_i64];omega
 have h2:((q + c:Nat):Int).tmod 4 = (((q + c) % 4:Nat):Int):=by rw [Int.tmod_eq_emod_of_nonneg (by omega)];omega
 have h3:(q + c) % 4 < 4:=by omega
 rw [h1,h2]
 generalize (q + c) % 4 = m at h3 ⊢
 rw [IntKind.wrap_i64]
 omega
theorem Tur.drew {w wr:World} {g:Nat} {l:List (BitVec 32)} (t:Tur w g l wr):Tur w g l wr.drew:=t.next t.now (grownBy_drew wr _)
set_option maxHeartbeats 2000000 in
set_option maxRecDepth 100000 in
theorem turn_any (g:Nat) (l:List (BitVec 32)) (w:World) (hl:l.length = 16) (hS:Wds w g l) :
  Calls Tryz.prog 162 #[.pointer (some ⟨g,0,none⟩)] w fun e w' => (∃ v,e = .returned v) ∧ Wds w' g (slants 4 (cols 4 l)) ∧ w.grownBy w' (some g):=by
 have HT0:Hid (Tur w g l w):=⟨hS,grownBy_refl w _⟩
 clear hS
 have hcl:∀ k,(cols k l).length = 16:=fun k => by rw [cols_length,hl]
 have hsl:∀ k,(slants k (cols 4 l)).length = 16:=fun k => by rw [slants_length,hcl]
 go_enter Tryz.func162,Tryz.ntmps162
 go_wp2
 go_loopw [4] (fun i wr => ∃ j:Nat,j ≤ 4 ∧ i = .int .i64 j ∧ Hid (Tur w g (cols j l) wr)) (fun i _ => 4 - (intOf i).toNat)
 case atStart => exact ⟨0,by omega,rfl,HT0⟩
 case round =>
  clear HT0
  obtain ⟨j,hj,rfl,hD⟩:=hrel
  by_cases hjl:j < 4
  ·obtain ⟨p1,hp1⟩:∃ p,4 + j = p:=⟨_,rfl⟩
   obtain ⟨p2,hp2⟩:∃ p,8 + j = p:=⟨_,rfl⟩
   obtain ⟨p3,hp3⟩:∃ p,12 + j = p:=⟨_,rfl⟩
   have e1:IntKind.i64.wrap ((4:Int) + (j:Int)) = (p1:Int):=by rw [IntKind.wrap_i64];omega
   have e2:IntKind.i64.wrap ((8:Int) + (j:Int)) = (p2:Int):=by rw [IntKind.wrap_i64];omega
   have e3:IntKind.i64.wrap ((12:Int) + (j:Int)) = (p3:Int):=by rw [IntKind.wrap_i64];omega
   have hlj:(j:Int) < 4:=by omega
   have hj16:(j:Int) < 16:=by omega
   have h116:(p1:Int) < 16:=by omega
   have h216:(p2:Int) < 16:=by omega
   have h316:(p3:Int) < 16:=by omega
   have HDd:Hid (Tur w g (cols j l) wr.drew):=hD.out.drew
   have hcj:=hcl j
   clear hD
   go_wp2
   refine wp_region_sched' (G:=But g) (by kernel_rfl) (But.refl g) (But.trans g) (by kernel_rfl) [(0,true),(1,true),(2,true),(3,true),(4,true),(5,true),(6,true),(7,true),(8,true),(9,true),(10,true),(11,true),(12,true),(13,true),(14,true),(15,true),(16,true),(17,true),(18,true),(19,false)] rfl (by kernel_rfl) ?_
   intro KK hKK
   generalize wr.drew = W at HDd
   iterate 19 (refine sched_take rfl (by rfl) (v:=?_) ?_ ?_;rotate_left;(intro w' hw';clear hw';go_simp;with_reducible rfl);go_simp)
   refine sched_call (f:=170) (args:=#[.pointer (some ⟨g,j,none⟩),.pointer (some ⟨g,p1,none⟩),.pointer (some ⟨g,p2,none⟩),.pointer (some ⟨g,p3,none⟩)]) rfl (by rfl) (by go_simp) ?_
   refine (quarter_any g _ j p1 p2 p3 _ HDd.out.now (by omega) (by omega) (by omega) (by omega) (by omega) (by omega)).mono ?_
   rintro e w8 ⟨⟨v,rfl⟩,hs8,hg8⟩
   refine ⟨_,rfl,hg8,?_⟩
   have HD8:Hid (Tur w g (cols (j + 1) l) w8):=by
    rw [cols,hp1,hp2,hp3]
    exact HDd.out.next hs8 hg8
   clear hs8 hg8
   go_simp
   refine sched_done hKK ?_
   go_wp2
   exact ⟨⟨j + 1,by omega,by go_num,HD8⟩,by simp [intOf];omega⟩
  ·have ej:j = 4:=by omega
   have hjr:¬ (j:Int) < 4:=by omega
   have HD4:Hid (Tur w g (cols 4 l) wr):=by rw [← ej];exact hD.out
   clear hD
   go_wp2
   go_loopw [28] (fun i wr => ∃ j:Nat,j ≤ 4 ∧ i = .int .i64 j ∧ Hid (Tur w g (slants j (cols 4 l)) wr)) (fun i _ => 4 - (intOf i).toNat)
   case atStart => exact ⟨0,by omega,rfl,HD4⟩
   case round =>
    clear HD4
    obtain ⟨q,hq,rfl,hE⟩:=hrel
    by_cases hql:q < 4
    ·obtain ⟨p1,hp1⟩:∃ p,4 + (q + 1) % 4 = p:=⟨_,rfl⟩
     obtain ⟨p2,hp2⟩:∃ p,8 + (q + 2) % 4 = p:=⟨_,rfl⟩
     obtain ⟨p3,hp3⟩:∃ p,12 + (q + 3) % 4 = p:=⟨_,rfl⟩
     have e1:IntKind.i64.wrap ((4:Int) + (IntKind.i64.wrap ((q:Int) + 1)).tmod 4) = (p1:Int):=by
      rw [← hp1];exact slant_val q 1 4 hql (by omega) (by omega)
     have e2:IntKind.i64.wrap ((8:Int) + (IntKind.i64.wrap ((q:Int) + 2)).tmod 4) = (p2:Int):=by
      rw [← hp2];exact slant_val q 2 8 hql (by omega) (by omega)
     have e3:IntKind.i64.wrap ((12:Int) + (IntKind.i64.wrap ((q:Int) + 3)).tmod 4) = (p3:Int):=by
      rw [← hp3];exact slant_val q 3 12 hql (by omega) (by omega)
     have hlq:(q:Int) < 4:=by omega
     have hq16:(q:Int) < 16:=by omega
     have h116:(p1:Int) < 16:=by omega
     have h216:(p2:Int) < 16:=by omega
     have h316:(p3:Int) < 16:=by omega
     have HEd:Hid (Tur w g (slants q (cols 4 l)) wr.drew):=hE.out.drew
     have hsq:=hsl q
     clear hE
     go_wp2
     refine wp_region_sched' (G:=But g) (by kernel_rfl) (But.refl g) (But.trans g) (by kernel_rfl) [(0,true),(1,true),(2,true),(3,true),(4,true),(5,true),(6,true),(7,true),(8,true),(9,true),(10,true),(11,true),(12,true),(13,true),(14,true),(15,true),(16,true),(17,true),(18,true),(19,true),(20,true),(21,true),(22,true),(23,true),(24,true),(25,false)] rfl (by kernel_rfl) ?_
     intro KK hKK
     generalize wr.drew = W at HEd
     iterate 25 (refine sched_take rfl (by rfl) (v:=?_) ?_ ?_;rotate_left;(intro w' hw';clear hw';go_simp;with_reducible rfl);go_simp)
     refine sched_call (f:=170) (args:=#[.pointer (some ⟨g,q,none⟩),.pointer (some ⟨g,p1,none⟩),.pointer (some ⟨g,p2,none⟩),.pointer (some ⟨g,p3,none⟩)]) rfl (by rfl) (by go_simp) ?_
     refine (quarter_any g _ q p1 p2 p3 _ HEd.out.now (by omega) (by omega) (by omega) (by omega) (by omega) (by omega)).mono ?_
     rintro e w8 ⟨⟨v,rfl⟩,hs8,hg8⟩
     refine ⟨_,rfl,hg8,?_⟩
     have HE8:Hid (Tur w g (slants (q + 1) (cols 4 l)) w8):=by
      rw [slants,hp1,hp2,hp3]
      exact HEd.out.next hs8 hg8
     clear hs8 hg8
     go_simp
     refine sched_done hKK ?_
     go_wp2
     exact ⟨⟨q + 1,by omega,by go_num,HE8⟩,by simp [intOf];omega⟩
    ·have eq:q = 4:=by omega
     have hqr:¬ (q:Int) < 4:=by omega
     have HE4:Hid (Tur w g (slants 4 (cols 4 l)) wr):=by have:=hE.out;rw [eq] at this;exact this
     clear hE
     go_wp2
     go_end0
     exact ⟨⟨_,rfl⟩,HE4.out.now,HE4.out.grown⟩
def fillTo (l:List (BitVec 32)) (off:Nat) (t:List UInt8):Nat → List (BitVec 32)
 | 0 => l
 | k + 1 => (fillTo l off t k).set (off + k) (wordAt t k)
theorem fillTo_length (l:List (BitVec 32)) (off:Nat) (t:List UInt8):∀ k,(fillTo l off t k).length = l.length
 | 0 => rfl
 | k + 1 => by rw [fillTo,List.length_set,fillTo_length l off t k]
theorem laid_chaAt (key:List UInt8) (ctr:BitVec 32) (nonce:List UInt8) :
  fillTo (fillTo [0x61707865#32,0x3320646e#32,0x79622d32#32,0x6b206574#32,0#32,0#32,0#32,0#32,0#32,0#32,0#32,0#32,ctr,0#32,0#32,0#32] 4 key 8) 13 nonce 3 = chaAt key ctr nonce:=by
 rfl
set_option maxHeartbeats 400000 in
set_option maxRecDepth 100000 in
theorem fill_any (g off n cap b boff bcap:Nat) (l:List (BitVec 32)) (t:List UInt8) (w:World) (hS:Wds w g l) (hoff:off + n ≤ l.length) (hn:n ≤ 100) (hnc:n ≤ cap) (hB:Byt w (some ⟨b,boff,none⟩) (4 * n) t) (hbc:4 * n ≤ bcap) (hbm:bcap ≤ 1000000) (hbg:b ≠ g) :
  Calls Tryz.prog 169 #[.slice (some ⟨g,off,none⟩) n cap,.slice (some ⟨b,boff,none⟩) (4 * n:Nat) bcap] w fun e w' => (∃ v,e = .returned v) ∧ Wds w' g (fillTo l off t n) ∧ w.grownBy w' (some g):=by
 obtain ⟨L,hL⟩:∃ L,4 * n = L:=⟨_,rfl⟩
 rw [hL] at hB hbc ⊢
 have HB:Hid (Byt w (some ⟨b,boff,none⟩) L t):=hB
 have HS:Hid (Tur w g l w):=⟨hS,grownBy_refl w _⟩
 clear hB hS
 go_enter Tryz.func169,Tryz.ntmps169
 go_wp2
 go_loopw [9] (fun i wr => ∃ k:Nat,k ≤ n ∧ i = .int .i64 k ∧ Hid (Tur w g (fillTo l off t k) wr)) (fun i _ => n - (intOf i).toNat)
 case atStart => exact ⟨0,by omega,rfl,HS⟩
 case round =>
  clear HS
  obtain ⟨k,hk,rfl,hT⟩:=hrel
  by_cases hlt:k < n
  ·obtain ⟨p,hp⟩:∃ p,4 * k = p:=⟨_,rfl⟩
   have e1:(k:Int) * 4 = (p:Int):=by omega
   have i1:(k:Int) < (n:Int):=by omega
   have HBr:Hid (Byt wr (some ⟨b,boff,none⟩) L t):=HB.out.but hT.out.grown hbg
   have HV:Hid ((getV t false p 4:Int) % 4294967296 = ((wordAt t k).toNat:Int)):=by
    show _ = _
    have:=getV4_lt t p
    rw [wordAt_val,hp];omega
   obtain ⟨W,hW⟩:∃ W,wr.setCell ⟨g,off + k,none⟩ (uv (wordAt t k)) = W:=⟨_,rfl⟩
   have HT:Hid (Tur w g (fillTo l off t (k + 1)) W):=by
    rw [← hW]
    refine hT.out.next (hT.out.now.set (off + k) _) ⟨rfl,rfl,rfl,by simp,fun j hj hne => ?_⟩
    exact heap_setCell_other wr ⟨g,off + k,none⟩ j _ (fun e => hne (by rw [e]))
   have HW:Hid (wr.setCell ⟨g,off + k,none⟩ (.int .u32 ((wordAt t k).toNat:Int)) = W):=hW
   obtain ⟨_,fr⟩:=hT.out.now.word (off + k) (by rw [fillTo_length];omega)
   obtain ⟨cc,_⟩:=hT.out.now.word (off + k) (by rw [fillTo_length];omega)
   clear hW hT
   go_wp2_with fail
   refine (get_yes b boff L bcap p 4 false t wr (by unfold maxLen;omega) hbc HBr.out (by omega) (by omega) (by omega)).mono ?_
   rintro e w' ⟨rfl,rfl⟩
   go_wp2
   rw [HV.out,HW.out]
   exact ⟨⟨k + 1,by omega,by go_num,HT⟩,by simp [intOf];omega⟩
  ·have ek:k = n:=by omega
   subst ek
   go_wp2
   go_end0
   exact ⟨⟨_,rfl⟩,hT.out.now,hT.out.grown⟩
def zero16:Array Value:=(List.replicate 16 (Value.int .u32 0)).toArray
structure Lay (w:World) (key nonce:List UInt8) (l:List (BitVec 32)) (W:World):Prop where
 key:W.heap[w.heap.size]? = some (.cells (key.map bv).toArray 24 (0,0))
 nonce:W.heap[w.heap.size + 1]? = some (.cells (nonce.map bv).toArray 90 (0,0))
 out:W.heap[w.heap.size + 1 + 1]? = some (.cells zero16 197 (0,0))
 now:Wds W (w.heap.size + 1 + 1 + 1) l
 bel:Below w.heap.size w W
theorem Lay.next {w W W':World} {key nonce:List UInt8} {l l':List (BitVec 32)} (h:Lay w key nonce l W) (hs:Wds W' (w.heap.size + 1 + 1 + 1) l') (hg:W.grownBy W' (some (w.heap.size + 1 + 1 + 1))):Lay w key nonce l' W':=by
 have hlt:=h.now.lt
 refine ⟨?_,?_,?_,hs,h.bel.grown hg h.bel.size (fun k e => by cases e;omega)⟩
 ·rw [hg.block _ (by omega) (fun e => by have:=Option.some.inj e;omega)];exact h.key
 ·rw [hg.block _ (by omega) (fun e => by have:=Option.some.inj e;omega)];exact h.nonce
 ·rw [hg.block _ (by omega) (fun e => by have:=Option.some.inj e;omega)];exact h.out
theorem Lay.new (w:World) (key nonce:List UInt8) (l:List (BitVec 32)) :
  Lay w key nonce l ((((w.alloc (.cells (key.map bv).toArray 24)).alloc (.cells (nonce.map bv).toArray 90)).alloc (.cells zero16 197)).alloc (.cells (l.map uv).toArray 197)):=by
 refine ⟨?_,?_,?_,?_,?_⟩
 ·rw [Below.heap_alloc _ _ _ (by simp <;> omega),Below.heap_alloc _ _ _ (by simp <;> omega),Below.heap_alloc _ _ _ (by simp)]
  exact heap_alloc_new w _
 ·rw [Below.heap_alloc _ _ _ (by simp <;> omega),Below.heap_alloc _ _ _ (by simp)]
  have:=heap_alloc_new (w.alloc (.cells (key.map bv).toArray 24)) (.cells (nonce.map bv).toArray 90)
  rwa [World.size_alloc] at this
 ·rw [Below.heap_alloc _ _ _ (by simp)]
  have:=heap_alloc_new ((w.alloc (.cells (key.map bv).toArray 24)).alloc (.cells (nonce.map bv).toArray 90)) (.cells zero16 197)
  rwa [World.size_alloc,World.size_alloc] at this
 ·have:=heap_alloc_new (((w.alloc (.cells (key.map bv).toArray 24)).alloc (.cells (nonce.map bv).toArray 90)).alloc (.cells zero16 197)) (.cells (l.map uv).toArray 197)
  rwa [World.size_alloc,World.size_alloc,World.size_alloc] at this
 ·exact ((((Below.refl _ _).alloc (Nat.le_refl _) _).alloc (by simp) _).alloc (by simp <;> omega) _).alloc (by simp <;> omega) _
set_option maxHeartbeats 2000000 in
set_option maxRecDepth 100000 in
theorem lay_any (key nonce:List UInt8) (ctr:BitVec 32) (w:World) (hk:key.length = 32) (hn:nonce.length = 12) :
  Calls Tryz.prog 161 #[.agg (key.map bv).toArray,.int .u32 (ctr.toNat:Int),.agg (nonce.map bv).toArray] w fun e w' => e = .returned (.agg ((chaAt key ctr nonce).map uv).toArray) ∧ Below w.heap.size w w':=by
 go_enter Tryz.func161,Tryz.ntmps161
 go_wp2
 refine from_world (P:=Code.wp Tryz.prog _ _ _) (R:=Lay w key nonce [0x61707865#32,0x3320646e#32,0x79622d32#32,0x6b206574#32,0#32,0#32,0#32,0#32,0#32,0#32,0#32,0#32,ctr,0#32,0#32,0#32]) _ (Lay.new w key nonce _) ?_
 intro W0 hL0
 obtain ⟨l0,hl0⟩:∃ l0,[0x61707865#32,0x3320646e#32,0x79622d32#32,0x6b206574#32,0#32,0#32,0#32,0#32,0#32,0#32,0#32,0#32,ctr,0#32,0#32,0#32] = l0:=⟨_,rfl⟩
 rw [hl0] at hL0
 have hlen0:l0.length = 16:=by rw [← hl0];rfl
 have HE:Hid (fillTo (fillTo l0 4 key 8) 13 nonce 3 = chaAt key ctr nonce):=by rw [← hl0];exact laid_chaAt key ctr nonce
 have HL0:Hid (Lay w key nonce l0 W0.drew):=hL0.next hL0.now (grownBy_drew W0 _)
 clear hL0 hl0
 refine wp_region_sched' (G:=But (w.heap.size + 1 + 1 + 1)) (by kernel_rfl) (But.refl _) (But.trans _) (by kernel_rfl) [(0,true),(1,true),(2,false)] rfl (by kernel_rfl) ?_
 intro KK hKK
 generalize W0.drew = W1 at HL0
 iterate 2 (refine sched_take rfl (by rfl) (v:=?_) ?_ ?_;rotate_left;(intro w' hw';clear hw';go_simp;with_reducible rfl);go_simp)
 refine sched_call (f:=169) (args:=#[.slice (some ⟨w.heap.size + 1 + 1 + 1,4,none⟩) 8 12,.slice (some ⟨w.heap.size,0,none⟩) 32 32]) rfl (by rfl) (by go_simp) ?_
 refine (fill_any (w.heap.size + 1 + 1 + 1) 4 8 12 w.heap.size 0 32 l0 key _ HL0.out.now (by omega) (by omega) (by omega) (byt_row 32 hk HL0.out.key) (by omega) (by omega) (by omega)).mono ?_
 rintro e w2 ⟨⟨v,rfl⟩,hs2,hg2⟩
 refine ⟨_,rfl,hg2,?_⟩
 have HL2:Hid (Lay w key nonce (fillTo l0 4 key 8) w2.drew):=(HL0.out.next hs2 hg2).next hs2 (grownBy_drew w2 _)
 clear hs2 hg2 HL0
 go_simp
 refine sched_done hKK ?_
 go_wp2
 refine wp_region_sched' (G:=But (w.heap.size + 1 + 1 + 1)) (by kernel_rfl) (But.refl _) (But.trans _) (by kernel_rfl) [(0,true),(1,true),(2,false)] rfl (by kernel_rfl) ?_
 intro KK2 hKK2
 generalize w2.drew = W2 at HL2
 iterate 2 (refine sched_take rfl (by rfl) (v:=?_) ?_ ?_;rotate_left;(intro w' hw';clear hw';go_simp;with_reducible rfl);go_simp)
 refine sched_call (f:=169) (args:=#[.slice (some ⟨w.heap.size + 1 + 1 + 1,13,none⟩) 3 3,.slice (some ⟨w.heap.size + 1,0,none⟩) 12 12]) rfl (by rfl) (by go_simp) ?_
 refine (fill_any (w.heap.size + 1 + 1 + 1) 13 3 3 (w.heap.size + 1) 0 12 _ nonce _ HL2.out.now (by rw [fillTo_length];omega) (by omega) (by omega) (byt_row 12 hn HL2.out.nonce) (by omega) (by omega) (by omega)).mono ?_
 rintro e w3 ⟨⟨v,rfl⟩,hs3,hg3⟩
 refine ⟨_,rfl,hg3,?_⟩
 have HL3:Hid (Lay w key nonce (chaAt key ctr nonce) w3):=by rw [← HE.out];exact HL2.out.next hs3 hg3
 clear hs3 hg3 HL2 HE
 go_simp
 refine sched_done hKK2 ?_
 have hclen:=chaAt_length key ctr nonce
 obtain ⟨cl,hcl⟩:∃ cl,chaAt key ctr nonce = cl:=⟨_,rfl⟩
 rw [hcl] at HL3 hclen
 have HCL:Hid (chaAt key ctr nonce = cl):=hcl
 clear hcl
 have IB:Hid ((Tryz.prog.info? 197).map (·.size) = some (cl.map uv).toArray.size):=by
  have e1:(Tryz.prog.info? 197).map (·.size) = some 16:=by kernel_rfl
  show _ = _
  rw [e1];simp [hclen]
 have hst:=store_row w3 (w.heap.size + 1 + 1) _ _ (cl.map uv) HL3.out.out (by simp [hclen,zero16]) (uv_oneCell cl)
 have hrow:=setRow_heap w3 (w.heap.size + 1 + 1) _ (cl.map uv).toArray _ _ HL3.out.out
 have HBel:Hid (Below w.heap.size w (w3.setRow (w.heap.size + 1 + 1) (cl.map uv).toArray)):=below_setRow HL3.out.bel (by omega) _
 obtain ⟨W4,hW4⟩:∃ W4,w3.setRow (w.heap.size + 1 + 1) (cl.map uv).toArray = W4:=⟨_,rfl⟩
 rw [hW4] at hst hrow HBel
 have HRow:Hid (W4.heap[w.heap.size + 1 + 1]? = some (.cells (cl.map uv).toArray 197 (0,0))):=hrow
 clear hrow hW4
 go_wp2_with (first | refine wpList_load_row rfl 197 _ rfl (w.heap.size + 1 + 1 + 1) rfl 197 _ (0,0) _ HL3.out.now Tryz.underlying197 rfl IB.out ?_)
 (try simp only [Exit.inBlock,Exit.then])
 refine bodyPost_ret (results_cell_row rfl _ _ (w.heap.size + 1 + 1) 197 _ (0,0) _ rfl HRow.out Tryz.underlying197 rfl IB.out) rfl ?_
 exact ⟨by rw [HCL.out],HBel.out⟩
def zero64:Array Value:=(List.replicate 64 (Value.int .u8 0)).toArray
structure BK (w:World) (key nonce:List UInt8) (W:World):Prop where
 k:W.heap[w.heap.size]? = some (.cells (key.map bv).toArray 24 (0,0))
 n:W.heap[w.heap.size + 1]? = some (.cells (nonce.map bv).toArray 90 (0,0))
 out:W.heap[w.heap.size + 1 + 1]? = some (.cells zero64 162 (0,0))
 bel:Below w.heap.size w W
theorem BK.new (w:World) (key nonce:List UInt8):BK w key nonce (((w.alloc (.cells (key.map bv).toArray 24)).alloc (.cells (nonce.map bv).toArray 90)).alloc (.cells zero64 162)):=by
 refine ⟨?_,?_,?_,?_⟩
 ·rw [Below.heap_alloc _ _ _ (by simp <;> omega),Below.heap_alloc _ _ _ (by simp)]
  exact heap_alloc_new w _
 ·rw [Below.heap_alloc _ _ _ (by simp)]
  have:=heap_alloc_new (w.alloc (.cells (key.map bv).toArray 24)) (.cells (nonce.map bv).toArray 90)
  rwa [World.size_alloc] at this
 ·have:=heap_alloc_new ((w.alloc (.cells (key.map bv).toArray 24)).alloc (.cells (nonce.map bv).toArray 90)) (.cells zero64 162)
  rwa [World.size_alloc,World.size_alloc] at this
 ·exact (((Below.refl _ _).alloc (Nat.le_refl _) _).alloc (by simp) _).alloc (by simp <;> omega) _
theorem run_store_wds (w:World) (l:List (BitVec 32)) (hn:l.length = 16) (c:Array Value) (hc:c.size = 16) :
  (storeCells ⟨w.heap.size,0,none⟩ (l.map uv)).run Tryz.prog (w.alloc (.cells c 197)) = .ok () (w.alloc (.cells (l.map uv).toArray 197)):=by
 have e1:(Tryz.prog.info? 197).map (·.size) = some 16:=by kernel_rfl
 have:=run_storeCells_new (P:=Tryz.prog) w 197 c (l.map uv).toArray (by rw [e1];simp [hn]) (by simp [hc,hn]) (by
  rw [Array.all_eq_true_iff_forall_mem]
  intro u hu
  simp only [List.mem_toArray] at hu
  exact uv_oneCell l u hu)
 exact this
structure BT (w:World) (g0 g1:Nat) (l0 l:List (BitVec 32)) (W:World):Prop where
 was:Wds W g0 l0
 now:Wds W g1 l
 out:W.heap[w.heap.size + 1 + 1]? = some (.cells zero64 162 (0,0))
 b0:w.heap.size + 1 + 1 < g0
 b1:w.heap.size + 1 + 1 < g1
 ne:g0 ≠ g1
 bel:Below w.heap.size w W
theorem BT.next {w W W':World} {g0 g1:Nat} {l0 l l':List (BitVec 32)} (h:BT w g0 g1 l0 l W) (hs:Wds W' g1 l') (hg:W.grownBy W' (some g1)):BT w g0 g1 l0 l' W':=by
 have h0:=h.b0
 have h1:=h.b1
 have hlt:=h.now.lt
 refine ⟨?_,hs,?_,h0,h1,h.ne,h.bel.grown hg h.bel.size (fun k e => by cases e;omega)⟩
 ·show W'.heap[g0]? = _
  rw [hg.block _ h.was.lt (fun e => h.ne (Option.some.inj e))];exact h.was
 ·rw [hg.block _ (by omega) (fun e => by have:=Option.some.inj e;omega)];exact h.out
theorem BT.new {w W0 w1:World} {key nonce:List UInt8} (cl:List (BitVec 32)) (h0:BK w key nonce W0) (hs0:W0.heap.size = w.heap.size + 1 + 1 + 1) (hb:Below W0.heap.size W0 w1) :
  BT w w1.heap.size (w1.heap.size + 1) cl cl ((w1.alloc (.cells (cl.map uv).toArray 197)).alloc (.cells (cl.map uv).toArray 197)):=by
 have hs:=hb.size
 refine ⟨?_,?_,?_,by omega,by omega,by omega,?_⟩
 ·unfold Wds
  rw [Below.heap_alloc _ _ _ (by simp)]
  exact heap_alloc_new w1 _
 ·have:=heap_alloc_new (w1.alloc (.cells (cl.map uv).toArray 197)) (.cells (cl.map uv).toArray 197)
  rwa [World.size_alloc] at this
 ·rw [Below.heap_alloc _ _ _ (by simp;omega),Below.heap_alloc _ _ _ (by omega),hb.block (w.heap.size + 1 + 1) (by omega)]
  exact h0.out
 ·have h2:Below w.heap.size w w1:=h0.bel.trans (hb.mono (by omega))
  have:=h2.size
  exact (h2.alloc h2.size _).alloc (by simp;omega) _
def outTo (key:List UInt8) (ctr:BitVec 32) (nonce:List UInt8) (k:Nat):List Value:=(blkTo key ctr nonce k).map bv ++ List.replicate (64 - 4 * k) (.int .u8 0)
theorem outTo_length (key:List UInt8) (ctr:BitVec 32) (nonce:List UInt8) (k:Nat) (hk:k ≤ 16):(outTo key ctr nonce k).length = 64:=by
 simp [outTo,blkTo_length];omega
theorem outTo_step (key:List UInt8) (ctr:BitVec 32) (nonce:List UInt8) (k:Nat) (hk:k < 16) (n:Nat) (hn:(chaWord key ctr nonce k).toNat = n) :
  (outTo key ctr nonce k).take (4 * k) ++ (putB 4 n false).map bv ++ (outTo key ctr nonce k).drop (4 * k + 4) = outTo key ctr nonce (k + 1):=by
 have hl:((blkTo key ctr nonce k).map bv).length = 4 * k:=by simp [blkTo_length]
 have e1:(outTo key ctr nonce k).take (4 * k) = (blkTo key ctr nonce k).map bv:=by
  unfold outTo;rw [← hl,List.take_left]
 have e2:(outTo key ctr nonce k).drop (4 * k + 4) = List.replicate (64 - 4 * (k + 1)) (.int .u8 0):=by
  unfold outTo
  rw [← List.drop_drop,← hl,List.drop_left,hl,List.drop_replicate]
  congr 1
 rw [e1,e2]
 unfold outTo
 rw [blkTo,hn,List.map_append]
 simp [putB]
structure BO (w:World) (g0 g1 g2:Nat) (l0 l:List (BitVec 32)) (o:List Value) (W:World):Prop where
 was:Wds W g0 l0
 now:Wds W g1 l
 res:W.heap[w.heap.size + 1 + 1]? = some (.cells zero64 162 (0,0))
 out:W.heap[g2]? = some (.cells o.toArray 162 (0,0))
 b2:w.heap.size + 1 + 1 < g2
 n0:g0 ≠ g2
 n1:g1 ≠ g2
 bel:Below w.heap.size w W
theorem BO.new {w W:World} {g0 g1:Nat} {l0 l:List (BitVec 32)} (h:BT w g0 g1 l0 l W):BO w g0 g1 W.heap.size l0 l (List.replicate 64 (.int .u8 0)) (W.alloc (.cells zero64 162)):=by
 have h0:=h.was.lt
 have h1:=h.now.lt
 have h2:w.heap.size + 1 + 1 < W.heap.size:=(Array.getElem?_eq_some_iff.1 h.out).1
 refine ⟨?_,?_,?_,heap_alloc_new W _,h2,by omega,by omega,h.bel.alloc h.bel.size _⟩
 ·unfold Wds
  rw [Below.heap_alloc _ _ _ h0];exact h.was
 ·unfold Wds
  rw [Below.heap_alloc _ _ _ h1];exact h.now
 ·rw [Below.heap_alloc _ _ _ h2];exact h.out
theorem BO.later {w W W':World} {g0 g1 g2:Nat} {l0 l:List (BitVec 32)} {o:List Value} (h:BO w g0 g1 g2 l0 l o W) (hb:Below W.heap.size W W'):BO w g0 g1 g2 l0 l o W':=
 ⟨h.was.later hb,h.now.later hb,by rw [hb.block _ (Array.getElem?_eq_some_iff.1 h.res).1];exact h.res,by rw [hb.block _ (Array.getElem?_eq_some_iff.1 h.out).1];exact h.out,h.b2,h.n0,h.n1,h.bel.trans (hb.mono h.bel.size)⟩
theorem BO.put {w W:World} {g0 g1 g2:Nat} {l0 l:List (BitVec 32)} {o:List Value} (h:BO w g0 g1 g2 l0 l o W) (o':List Value):BO w g0 g1 g2 l0 l o' (W.setRow g2 o'.toArray):=by
 have h2:=h.b2
 refine ⟨?_,?_,?_,setRow_heap W g2 _ _ _ _ h.out,h.b2,h.n0,h.n1,below_setRow h.bel (by omega) _⟩
 ·unfold Wds
  rw [setRow_other _ _ _ _ h.n0];exact h.was
 ·unfold Wds
  rw [setRow_other _ _ _ _ h.n1];exact h.now
 ·rw [setRow_other _ _ _ _ (by omega)];exact h.res
theorem But.word {w w':World} {g g':Nat} {l:List (BitVec 32)} (h:Wds w g' l) (hne:g' ≠ g) (hb:But g w w') (i:Nat) (hi:i < l.length):w'.cell? ⟨g',i,none⟩ = some (.int .u32 ((at32 l i).toNat:Int)):=
 World.grownBy.cell hb (h.word i hi).1 (fun e => hne (by cases e;rfl))
set_option maxHeartbeats 2000000 in
set_option maxRecDepth 100000 in
theorem block_any (key nonce:List UInt8) (ctr:BitVec 32) (w:World) (hk:key.length = 32) (hn:nonce.length = 12) :
  Calls Tryz.prog 141 #[.agg (key.map bv).toArray,.int .u32 (ctr.toNat:Int),.agg (nonce.map bv).toArray] w fun e w' => e = .returned (.agg ((blk key ctr nonce).map bv).toArray) ∧ Below w.heap.size w w':=by
 have IK:Hid ((Tryz.prog.info? 24).map (·.size) = some (key.map bv).toArray.size):=by
  have e1:(Tryz.prog.info? 24).map (·.size) = some 32:=by kernel_rfl
  show _ = _
  rw [e1];simp [hk]
 have IN:Hid ((Tryz.prog.info? 90).map (·.size) = some (nonce.map bv).toArray.size):=by
  have e1:(Tryz.prog.info? 90).map (·.size) = some 12:=by kernel_rfl
  show _ = _
  rw [e1];simp [hn]
 go_enter Tryz.func141,Tryz.ntmps141
 go_wp2_with (first | refine wpList_load_row rfl 24 _ rfl w.heap.size rfl 24 _ (0,0) _ (BK.new w key nonce).k Tryz.underlying24 rfl IK.out ?_ | refine wpList_load_row rfl 90 _ rfl (w.heap.size + 1) rfl 90 _ (0,0) _ (BK.new w key nonce).n Tryz.underlying90 rfl IN.out ?_)
 refine (lay_any key nonce ctr _ hk hn).mono ?_
 rintro e w1 ⟨rfl,hb1⟩
 have hclen:=chaAt_length key ctr nonce
 obtain ⟨cl,hcl⟩:∃ cl,chaAt key ctr nonce = cl:=⟨_,rfl⟩
 rw [hcl] at hclen ⊢
 have HCL:Hid (chaAt key ctr nonce = cl):=hcl
 clear hcl
 have HB1:Hid (BT w w1.heap.size (w1.heap.size + 1) cl cl ((w1.alloc (.cells (cl.map uv).toArray 197)).alloc (.cells (cl.map uv).toArray 197))):=BT.new cl (BK.new w key nonce) (by simp) hb1
 have hst1:=run_store_wds w1 cl hclen
 have hst2:=run_store_wds (w1.alloc (.cells (cl.map uv).toArray 197)) cl hclen
 rw [World.size_alloc] at hst2
 have IB:Hid ((Tryz.prog.info? 197).map (·.size) = some (cl.map uv).toArray.size):=by
  have e1:(Tryz.prog.info? 197).map (·.size) = some 16:=by kernel_rfl
  show _ = _
  rw [e1];simp [hclen]
 clear hb1
 go_wp2_with (first | refine wpList_load_row rfl 197 _ rfl w1.heap.size rfl 197 _ (0,0) _ (heap_alloc_new w1 _) Tryz.underlying197 rfl IB.out ?_)
 clear hst1 hst2 IB IK IN
 generalize (w1.alloc (.cells (cl.map uv).toArray 197)).alloc (.cells (cl.map uv).toArray 197) = W1 at HB1 ⊢
 obtain ⟨g0,hg0⟩:∃ g0,w1.heap.size = g0:=⟨_,rfl⟩
 obtain ⟨g1,hg1⟩:∃ g1,w1.heap.size + 1 = g1:=⟨_,rfl⟩
 rw [hg1] at HB1 ⊢
 rw [hg0] at HB1 ⊢
 clear hg0 hg1
 have htl:∀ k,(turned k cl).length = 16:=fun k => by rw [turned_length,hclen]
 go_loopw [16] (fun i wr => ∃ k:Nat,k ≤ 10 ∧ i = .int .i64 k ∧ Hid (BT w g0 g1 cl (turned k cl) wr)) (fun i _ => 10 - (intOf i).toNat)
 case atStart => exact ⟨0,by omega,rfl,HB1⟩
 case round =>
  clear HB1
  obtain ⟨k,hk,rfl,hT⟩:=hrel
  by_cases hlt:k < 10
  ·have hki:(k:Int) < 10:=by omega
   go_wp2_with fail
   refine (turn_any g1 _ _ (htl k) hT.out.now).mono ?_
   rintro e w8 ⟨⟨v,rfl⟩,hs8,hg8⟩
   have HT8:Hid (BT w g0 g1 cl (turned (k + 1) cl) w8):=hT.out.next hs8 hg8
   clear hs8 hg8
   go_wp2
   exact ⟨⟨k + 1,by omega,by go_num,HT8⟩,by simp [intOf];omega⟩
  ·have ek:k = 10:=by omega
   have hkr:¬ (k:Int) < 10:=by omega
   have HT:Hid (BT w g0 g1 cl (turned 10 cl) wr):=by have:=hT.out;rw [ek] at this;exact this
   clear hT
   go_wp2
   have HO0:Hid (BO w g0 g1 wr.heap.size cl (turned 10 cl) (outTo key ctr nonce 0) (wr.alloc (.cells zero64 162))):=BO.new HT.out
   refine from_world (P:=Code.wp Tryz.prog _ _ _) (R:=fun W => Hid (BO w g0 g1 wr.heap.size cl (turned 10 cl) (outTo key ctr nonce 0) W)) _ HO0 ?_
   intro W2 hO
   clear HO0 HT
   generalize wr.heap.size = g2 at hO ⊢
   go_loopw [20] (fun i wr => ∃ k:Nat,k ≤ 16 ∧ i = .int .i64 k ∧ Hid (BO w g0 g1 g2 cl (turned 10 cl) (outTo key ctr nonce k) wr)) (fun i _ => 16 - (intOf i).toNat)
   case atStart => exact ⟨0,by omega,rfl,hO⟩
   case round =>
    clear hO
    obtain ⟨k,hk,rfl,hO⟩:=hrel
    by_cases hlt:k < 16
    ·obtain ⟨x,hx⟩:∃ x,at32 (turned 10 cl) k = x:=⟨_,rfl⟩
     obtain ⟨y,hy⟩:∃ y,at32 cl k = y:=⟨_,rfl⟩
     obtain ⟨n,hn'⟩:∃ n,(x + y).toNat = n:=⟨_,rfl⟩
     obtain ⟨p,hp⟩:∃ p,4 * k = p:=⟨_,rfl⟩
     have hcw:(chaWord key ctr nonce k).toNat = n:=by rw [chaWord,HCL.out,hx,hy,hn']
     have i1:(k:Int) < 16:=by omega
     have e1:IntKind.i64.wrap ((k:Int) * 4) = (p:Int):=by rw [IntKind.wrap_i64];omega
     have HE:Hid ((outTo key ctr nonce k).take p ++ (putB 4 n false).map bv ++ (outTo key ctr nonce k).drop (p + 4) = outTo key ctr nonce (k + 1)):=by rw [← hp];exact outTo_step key ctr nonce k hlt n hcw
     have HU:Hid (IntKind.u32.wrap ((x.toNat:Int) + (y.toNat:Int)) = (n:Int)):=by show _ = _;rw [IntKind.wrap_u32,sum_val,hn']
     have HN64:Hid (IntKind.u64.wrap (n:Int) = (n:Int)):=by show _ = _;have:=(x + y).isLt;rw [IntKind.wrap_u64];omega
     obtain ⟨W,hW⟩:∃ W,wr.drew = W:=⟨_,rfl⟩
     have hgr:Below wr.heap.size wr W:=by rw [← hW];exact (Below.refl _ _).drew
     have HOW:Hid (BO w g0 g1 g2 cl (turned 10 cl) (outTo key ctr nonce k) W):=hO.out.later hgr
     have HW:Hid (wr.drew = W):=hW
     have hld1:∀ w',But g2 W w' → w'.cell? ⟨g1,k,none⟩ = some (.int .u32 (x.toNat:Int)):=fun w' hw' => by
      rw [← hx];exact But.word HOW.out.now HOW.out.n1 hw' k (by rw [htl];omega)
     have hld2:∀ w',But g2 W w' → w'.cell? ⟨g0,k,none⟩ = some (.int .u32 (y.toNat:Int)):=fun w' hw' => by
      rw [← hy];exact But.word HOW.out.was HOW.out.n0 hw' k (by omega)
     have h64:(p:Int) ≤ 64:=by omega
     have h64':(p:Int) < 64:=by omega
     have h64n:¬ 64 = p:=by omega
     clear hO hgr hW hx hy hn' hcw
     go_wp2
     refine wp_region_sched' (G:=But g2) (by kernel_rfl) (But.refl g2) (But.trans g2) (by kernel_rfl) [(0,true),(1,true),(2,true),(3,true),(4,true),(5,true),(6,true),(7,true),(8,true),(9,true),(10,true),(11,false),(12,false)] rfl (by kernel_rfl) ?_
     intro KK hKK
     rw [HW.out]
     iterate 11 (refine sched_take rfl (by rfl) (v:=?_) ?_ ?_;rotate_left;(intro w' hw';have q1:=hld1 w' hw';have q2:=hld2 w' hw';go_simp;with_reducible rfl);go_simp)
     refine sched_call (f:=91) (args:=#[.slice none 0 0,.int .i64 4,.int .u64 (n:Int),.bool false]) rfl (by rfl) (by go_simp;rw [HU.out,HN64.out]) ?_
     refine (put_any none 0 0 4 n false [] _ (by omega) ⟨rfl,.inl rfl⟩ 4 (by decide)).mono ?_
     rintro e w8 ⟨g8,rfl,hg8,hb8,hB8⟩
     refine ⟨_,rfl,But.below g2 hb8,?_⟩
     have hO8:=HOW.out.later hb8
     have hg28:g2 < w8.heap.size:=(Array.getElem?_eq_some_iff.1 hO8.out).1
     have hol:=outTo_length key ctr nonce k hk
     have hcp:=run_copy_row Tryz.prog w8 22 22 3 5 g2 p (64 - p) (64 - p) ⟨g8,0,none⟩ (0 + 4) (0 + 4) _ _ ((putB 4 n false).map bv) Tryz.underlying22 Tryz.info1U8 hO8.out
      (by rw [List.length_map,putB_length];show 4 = min (0 + 4) (64 - p);omega) (fun j v hj => hB8.cells _ rfl j v (by simpa using hj)) (by simp [putB_length,hol];omega) (bv_oneCell _)
     have hl4:((putB 4 n false).map bv).length = 4:=by simp [putB_length]
     rw [hl4] at hcp
     simp only [] at hcp
     rw [HE.out] at hcp
     have HO9:Hid (BO w g0 g1 g2 cl (turned 10 cl) (outTo key ctr nonce (k + 1)) (w8.setRow g2 (outTo key ctr nonce (k + 1)).toArray)):=hO8.put _
     have HG9:Hid (But g2 w8 (w8.setRow g2 (outTo key ctr nonce (k + 1)).toArray)):=But.setRow _ _ _
     generalize w8.setRow g2 (outTo key ctr nonce (k + 1)).toArray = W9 at hcp HO9 HG9
     clear hld1 hld2 hO8 hB8 hb8 HE HU HOW hol
     go_simp
     refine sched_val (w':=W9) (v:=goInt 4) rfl (by rfl) (by go_simp) HG9.out ?_
     go_simp
     refine sched_done hKK ?_
     go_wp2
     exact ⟨⟨k + 1,by omega,by go_num,HO9⟩,by simp [intOf];omega⟩
    ·have ek:k = 16:=by omega
     have hkr:¬ (k:Int) < 16:=by omega
     obtain ⟨B,hB⟩:∃ B,blk key ctr nonce = B:=⟨_,rfl⟩
     have hBl:B.length = 64:=by rw [← hB];exact blk_length key ctr nonce
     have HBe:Hid (blk key ctr nonce = B):=hB
     have HO:Hid (BO w g0 g1 g2 cl (turned 10 cl) (B.map bv) wr):=by
      have:=hO.out
      rw [ek] at this
      have e:outTo key ctr nonce 16 = B.map bv:=by rw [← hB];simp [outTo,blk]
      rw [e] at this
      exact this
     have IB:Hid ((Tryz.prog.info? 162).map (·.size) = some (B.map bv).toArray.size):=by
      have e1:(Tryz.prog.info? 162).map (·.size) = some 64:=by kernel_rfl
      show _ = _
      rw [e1];simp [hBl]
     have hst:=store_row wr (w.heap.size + 1 + 1) _ _ (B.map bv) HO.out.res (by simp [hBl,zero64]) (bv_oneCell B)
     have hrow:=setRow_heap wr (w.heap.size + 1 + 1) _ (B.map bv).toArray _ _ HO.out.res
     have HBel:Hid (Below w.heap.size w (wr.setRow (w.heap.size + 1 + 1) (B.map bv).toArray)):=below_setRow HO.out.bel (by omega) _
     obtain ⟨W4,hW4⟩:∃ W4,wr.setRow (w.heap.size + 1 + 1) (B.map bv).toArray = W4:=⟨_,rfl⟩
     rw [hW4] at hst hrow HBel
     have HRow:Hid (W4.heap[w.heap.size + 1 + 1]? = some (.cells (B.map bv).toArray 162 (0,0))):=hrow
     clear hrow hW4 hO hB
     go_wp2_with (first | refine wpList_load_row rfl 162 _ rfl g2 rfl 162 _ (0,0) _ HO.out.out Tryz.underlying162 rfl IB.out ?_)
     (try simp only [Exit.inBlock,Exit.then])
     refine bodyPost_ret (results_cell_row rfl _ _ (w.heap.size + 1 + 1) 162 _ (0,0) _ rfl HRow.out Tryz.underlying162 rfl IB.out) rfl ?_
     exact ⟨by rw [HBe.out],HBel.out⟩
structure SK (w:World) (key nonce:List UInt8) (W:World):Prop where
 k:W.heap[w.heap.size]? = some (.cells (key.map bv).toArray 24 (0,0))
 n:W.heap[w.heap.size + 1]? = some (.cells (nonce.map bv).toArray 90 (0,0))
 size:w.heap.size + 1 + 1 ≤ W.heap.size
 bel:Below w.heap.size w W
theorem SK.new (w:World) (key nonce:List UInt8):SK w key nonce ((w.alloc (.cells (key.map bv).toArray 24)).alloc (.cells (nonce.map bv).toArray 90)):=by
 refine ⟨?_,?_,by simp,?_⟩
 ·rw [Below.heap_alloc _ _ _ (by simp)]
  exact heap_alloc_new w _
 ·have:=heap_alloc_new (w.alloc (.cells (key.map bv).toArray 24)) (.cells (nonce.map bv).toArray 90)
  rwa [World.size_alloc] at this
 ·exact ((Below.refl _ _).alloc (Nat.le_refl _) _).alloc (by simp) _
theorem SK.later {w W W':World} {key nonce:List UInt8} (h:SK w key nonce W) (hb:Below (w.heap.size + 1 + 1) W W'):SK w key nonce W':=
 ⟨by rw [hb.block _ (by omega)];exact h.k,by rw [hb.block _ (by omega)];exact h.n,Nat.le_trans h.size hb.size,h.bel.trans (hb.mono (by omega))⟩
theorem run_store_new64 (w:World) (B:List UInt8) (hn:B.length = 64) (c:Array Value) (hc:c.size = 64) :
  (storeCells ⟨w.heap.size,0,none⟩ (B.map bv)).run Tryz.prog (w.alloc (.cells c 162)) = .ok () (w.alloc (.cells (B.map bv).toArray 162)):=by
 have e1:(Tryz.prog.info? 162).map (·.size) = some 64:=by kernel_rfl
 exact run_storeCells_new (P:=Tryz.prog) w 162 c (B.map bv).toArray (by rw [e1];simp [hn]) (by simp [hc,hn]) (by
  rw [Array.all_eq_true_iff_forall_mem]
  intro u hu
  simp only [List.mem_toArray] at hu
  exact bv_oneCell B u hu)
theorem ctr_step (ctr:BitVec 32) (k:Nat):(((ctr + BitVec.ofNat 32 k).toNat:Int) + 1) % 4294967296 = ((ctr + BitVec.ofNat 32 (k + 1)).toNat:Int):=by
 simp only [BitVec.toNat_add,BitVec.toNat_ofNat]
 omega
set_option maxHeartbeats 2000000 in
set_option maxRecDepth 100000 in
theorem stream_own (key nonce:List UInt8) (ctr:BitVec 32) (a:Option Addr) (len cap:Nat) (l:List UInt8) (w:World) (hk:key.length = 32) (hn:nonce.length = 12) (hB:Byt w a len l) (hlm:len ≤ 1000000) (hlc:len ≤ cap) (hcm:cap ≤ maxLen) :
  Calls Tryz.prog 110 #[.agg (key.map bv).toArray,.int .u32 (ctr.toNat:Int),.agg (nonce.map bv).toArray,.slice a len cap] w fun e w' => ∃ v,e = .returned v ∧ Below w.heap.size w w' ∧ w'.ownsRow w.heap.size 5 1 v len ((stm key ctr nonce l).map bv):=by
 have IK:Hid ((Tryz.prog.info? 24).map (·.size) = some (key.map bv).toArray.size):=by
  have e1:(Tryz.prog.info? 24).map (·.size) = some 32:=by kernel_rfl
  show _ = _
  rw [e1];simp [hk]
 have IN:Hid ((Tryz.prog.info? 90).map (·.size) = some (nonce.map bv).toArray.size):=by
  have e1:(Tryz.prog.info? 90).map (·.size) = some 12:=by kernel_rfl
  show _ = _
  rw [e1];simp [hn]
 have hl:=hB.1
 have hcm':cap ≤ 9223372036854775807:=by unfold maxLen at hcm;exact hcm
 clear hcm
 have HB:Hid (Byt w a len l):=hB
 clear hB
 have HS0:Hid (SK w key nonce ((w.alloc (.cells (key.map bv).toArray 24)).alloc (.cells (nonce.map bv).toArray 90))):=SK.new w key nonce
 obtain ⟨Z,hZ,hmk⟩:=make_room ((w.alloc (.cells (key.map bv).toArray 24)).alloc (.cells (nonce.map bv).toArray 90)) len (by omega)
 rw [World.size_alloc,World.size_alloc] at hmk
 have HO0:Hid ((((w.alloc (.cells (key.map bv).toArray 24)).alloc (.cells (nonce.map bv).toArray 90)).alloc (.cells Z.toArray 5)).ownsRow (w.heap.size + 1 + 1) 5 1 (.slice (some ⟨w.heap.size + 1 + 1,0,none⟩) 0 len) 0 (([]:List UInt8).map bv)):=by
  have:=World.ownsRow_made (base:=w.heap.size + 1 + 1) (e:=5) (size:=1) ((w.alloc (.cells (key.map bv).toArray 24)).alloc (.cells (nonce.map bv).toArray 90)) Z.toArray len (by simp) (by unfold maxLen;omega) (by simp [hZ])
  rw [World.size_alloc,World.size_alloc] at this
  exact this
 have HS1:Hid (SK w key nonce (((w.alloc (.cells (key.map bv).toArray 24)).alloc (.cells (nonce.map bv).toArray 90)).alloc (.cells Z.toArray 5))):=
  HS0.out.later ((Below.refl _ _).alloc (by simp) _)
 clear HS0
 go_enter Tryz.func110,Tryz.ntmps110
 go_wp2
 clear hmk
 generalize ((w.alloc (.cells (key.map bv).toArray 24)).alloc (.cells (nonce.map bv).toArray 90)).alloc (.cells Z.toArray 5) = W1 at HO0 HS1 ⊢
 go_loopw [1,9] (fun c v wr => ∃ (k n:Nat) (a':Option Addr) (c':Nat),n = min (64 * k) len ∧ 64 * k ≤ len + 63 ∧ c = .int .u32 ((ctr + BitVec.ofNat 32 k).toNat:Int) ∧ v = .slice a' n c' ∧ Hid (wr.ownsRow (w.heap.size + 1 + 1) 5 1 (.slice a' n c') n ((stm key ctr nonce (l.take n)).map bv)) ∧ Hid (SK w key nonce wr)) (fun _ v _ => match v with | .slice _ n _ => len - n | _ => 0)
 case atStart => exact ⟨0,0,_,_,by omega,by omega,by rw [BitVec.add_zero],rfl,by rw [List.take_zero];exact HO0,HS1⟩
 case round =>
  clear HO0 HS1
  obtain ⟨k,n,a',c',hnE,hk64,rfl,rfl,hO,hS⟩:=hrel
  by_cases hlt:n < len
  ·have en:64 * k = n:=by omega
   have i1:(n:Int) < (len:Int):=by omega
   obtain ⟨q,hq⟩:∃ q,q = min (n + 64) len:=⟨_,rfl⟩
   have hq1:n < q:=by omega
   have hq2:q ≤ len:=by omega
   have hq3:q - n ≤ 64:=by omega
   have hqm:min (len - n) 64 = q - n:=by omega
   obtain ⟨C,hC⟩:∃ C,ctr + BitVec.ofNat 32 k = C:=⟨_,rfl⟩
   rw [hC]
   obtain ⟨B,hBe⟩:∃ B,blk key C nonce = B:=⟨_,rfl⟩
   have hBl:B.length = 64:=by rw [← hBe];exact blk_length key C nonce
   have HST:Hid (stm key ctr nonce (l.take q) = stm key ctr nonce (l.take n) ++ xorB (l.drop n) B):=by
    have e:=stm_step key ctr nonce l k (by omega)
    rw [en,hl,← hq,show min 64 (len - n) = q - n by omega,hC,stm_one key C nonce ((l.drop n).take (q - n)) (by simp;omega),hBe] at e
    show _ = _
    rw [e]
    congr 1
    unfold xorB
    apply List.ext_getElem
    ·simp only [List.length_zipWith,List.length_take,List.length_drop,hl,hBl];omega
    ·intro i h1 h2
     simp
   have HQ:Hid (q = min (64 * (k + 1)) len):=by show _ = _;omega
   have HCt:Hid (((C.toNat:Int) + 1) % 4294967296 = ((ctr + BitVec.ofNat 32 (k + 1)).toNat:Int)):=by rw [← hC];exact ctr_step ctr k
   have HBe:Hid (blk key C nonce = B):=hBe
   obtain ⟨ba,offa,rfl⟩:∃ ba offa,a = some ⟨ba,offa,none⟩:=by
    rcases HB.out.2 with h0 | ⟨b',off',e,_⟩
    ·omega
    ·exact ⟨b',off',e⟩
   have hba:=HB.out.lt (by omega)
   have hnc:(n:Int) ≤ (cap:Int):=by omega
   have hnl:(n:Int) ≤ (len:Int):=by omega
   have HKQ:Hid (64 * (k + 1) ≤ len + 63):=by show _ ≤ _;omega
   clear hq hBe hC hnE hk64
   go_wp2_with (first | refine wpList_load_row rfl 24 _ rfl w.heap.size rfl 24 _ (0,0) _ hS.out.k Tryz.underlying24 rfl IK.out ?_ | refine wpList_load_row rfl 90 _ rfl (w.heap.size + 1) rfl 90 _ (0,0) _ hS.out.n Tryz.underlying90 rfl IN.out ?_)
   refine (block_any key nonce C _ hk hn).mono ?_
   rintro e w1 ⟨rfl,hb1⟩
   rw [HBe.out]
   have hst:=run_store_new64 w1 B hBl
   obtain ⟨W1',hW1'⟩:∃ W,w1.alloc (.cells (B.map bv).toArray 162) = W:=⟨_,rfl⟩
   have hb1':Below wr.heap.size wr W1':=by rw [← hW1'];exact hb1.alloc hb1.size _
   have HX1:Hid (W1'.heap[w1.heap.size]? = some (.cells (B.map bv).toArray 162 (0,0))):=by rw [← hW1'];exact heap_alloc_new w1 _
   rw [hW1'] at hst
   have HS1:Hid (SK w key nonce W1'):=hS.out.later (hb1'.mono hS.out.size)
   have HO1:Hid (W1'.ownsRow (w.heap.size + 1 + 1) 5 1 (.slice a' n c') n ((stm key ctr nonce (l.take n)).map bv)):=hO.out.kept (grown_below hb1') (by
    rcases h:Value.ownBlock (.slice a' n c') with _ | j
    ·exact .inl rfl
    ·exact .inr (by simp))
   clear hW1' hb1 hb1' hS hO
   go_wp2
   clear hst
   generalize w1.heap.size = xb at HX1 ⊢
   obtain ⟨W,hW⟩:∃ W,W1'.drew = W:=⟨_,rfl⟩
   have hgr:Below W1'.heap.size W1' W:=by rw [← hW];exact (Below.refl _ _).drew
   have HSW:Hid (SK w key nonce W):=HS1.out.later (hgr.mono HS1.out.size)
   have HOW:Hid (W.ownsRow (w.heap.size + 1 + 1) 5 1 (.slice a' n c') n ((stm key ctr nonce (l.take n)).map bv)):=HO1.out.kept (grown_below hgr) (by
    rcases h:Value.ownBlock (.slice a' n c') with _ | j
    ·exact .inl rfl
    ·exact .inr (by simp))
   have HXW:Hid (Byt W (some ⟨xb,0,none⟩) 64 B):=byt_row 64 hBl (by rw [hgr.block _ (Array.getElem?_eq_some_iff.1 HX1.out).1];exact HX1.out)
   have HBW:Hid (Byt W (some ⟨ba,offa + n,none⟩) (len - n) (l.drop n)):=by
    have:=(HB.out.below hba HSW.out.bel).sub (n:=n) (q:=len) (by omega) (Nat.le_refl _)
    rwa [List.take_of_length_le (by simp;omega)] at this
   have hWe:Hid (W1'.drew = W):=hW
   clear hW hgr HS1 HO1 HX1
   refine wp_region_sched' (G:=Rest (.slice a' n c')) (by kernel_rfl) (Rest.refl _) (Rest.trans _) (by kernel_rfl) [(0,true),(1,true),(2,true),(3,true),(4,true),(5,true),(6,false),(7,false),(8,true)] rfl (by kernel_rfl) ?_
   intro KK hKK
   rw [hWe.out]
   have hcn:¬ cap = n:=by omega
   iterate 6 (refine sched_take rfl (by rfl) (v:=?_) ?_ ?_;rotate_left;(intro w' hw';clear hw';go_simp;with_reducible rfl);go_simp)
   refine sched_call (f:=142) (args:=#[.slice (some ⟨ba,offa + n,none⟩) (len - n) (cap - n),.slice (some ⟨xb,0,none⟩) 64 64]) rfl (by rfl) (by go_simp) ?_
   refine (xor_any (some ⟨ba,offa + n,none⟩) (some ⟨xb,0,none⟩) (len - n) (cap - n) 64 64 (l.drop n) B _ HBW.out HXW.out (by omega) (by omega)).mono ?_
   rintro e w2 ⟨g2,rfl,hg2,hb2,hB2⟩
   rw [hqm] at hB2 ⊢
   refine ⟨_,rfl,Rest.below _ hb2,?_⟩
   have hS2:=HSW.out.later (hb2.mono HSW.out.size)
   have hO2:=HOW.out.kept (grown_below hb2) (by
    rcases h:Value.ownBlock (.slice a' n c') with _ | j
    ·exact .inl rfl
    ·exact .inr (by simp))
   obtain ⟨v3,w3,hap3,own3,hg3⟩:=append_bytes w2 (w.heap.size + 1 + 1) _ n _ hO2 ⟨g2,0,none⟩ (q - n) (q - n) _ hB2 hS2.size (by omega)
   rw [← HST.out,show n + (q - n) = q by omega] at own3
   obtain ⟨a3,c3,rfl,_,_,_⟩:=own_out own3
   have HO3:Hid (w3.ownsRow (w.heap.size + 1 + 1) 5 1 (.slice a3 q c3) q ((stm key ctr nonce (l.take q)).map bv)):=own3
   have HS3:Hid (SK w key nonce w3):=hS2.later ((Below.refl _ _).grown hg3 hS2.size (fun j hj => (hO2.lt j hj).1))
   have HA3:Hid ((Builtin.append_ #[22,22] 22 #[.slice a' n c',.slice (some ⟨g2,0,none⟩) (q - n) (q - n)]).run Tryz.prog w2 = .ok (.slice a3 q c3) w3):=hap3
   have HG3:Hid (Rest (.slice a' n c') w2 w3):=hg3
   clear hap3 own3 hg3 hO2 hB2 hb2 hS2 HSW HOW HXW HBW
   go_simp
   refine sched_append (s:=.tmp 23) (x:=.tmp 29) (t:=22) rfl (by rfl) rfl rfl rfl HA3.out HG3.out ?_
   go_simp
   iterate 1 (refine sched_take rfl (by rfl) (v:=?_) ?_ ?_;rotate_left;(intro w' hw';clear hw';go_simp;with_reducible rfl);go_simp)
   refine sched_done hKK ?_
   go_wp2
   rw [HCt.out]
   exact ⟨⟨k + 1,q,a3,c3,HQ.out,HKQ.out,rfl,rfl,HO3,HS3⟩,by simp;omega⟩
  ·have en:n = len:=by omega
   have i1:¬ (n:Int) < (len:Int):=by omega
   have HF:Hid (l.take n = l):=List.take_of_length_le (by omega)
   rw [HF.out] at hO
   clear hnE hk64
   go_wp2
   go_ret
   exact ⟨_,rfl,hS.out.bel,by rw [← en];exact own_lower hO.out (by omega)⟩
end Go.Proofs.YthmkhdnnljdglaaGreatDoor
