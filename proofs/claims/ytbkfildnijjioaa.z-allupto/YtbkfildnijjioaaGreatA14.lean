import Derived.Test.YtbkfildnijjioaaGreatA13
import Derived.Test.YtbkfildnijjioaaGreatA11
import Derived.Test.YtbkfildnijjioaaGreatA02
import Derived.Test.YtbkfildnijjioaaGreatA01
import Derived.Deep.QuietTactic
import Derived.BigQuiet
import Derived.Deep.DeepCutAuto
namespace Go.Proofs.YtbkfildnijjioaaGreat
open Go.RowKit
theorem Tryz.infoLine:(Tryz.prog.info? 75).map (fun i=>(i.zero,i.size,i.bytes))=some (some (.agg #[.int .i64 0,.int .i64 0,.int .i64 0,.int .i64 0,.int .i64 0,.slice none 0 0,.slice none 0 0]),7,88):=by kernel_rfl
def entryV (x:LineD) (mv:Value):Value:=.agg #[.int .i64 x.th,.int .i64 x.at_,.int .i64 x.cd,.int .i64 x.er,.int .i64 0,.slice none 0 0,mv]
set_option maxRecDepth 100000 in
set_option maxHeartbeats 2000000 in
theorem kPlayEntry_any (Q:Nat->Prop) (w:World) (kb:Nat) (s:RS) (k:KPK Q w kb s) (hnx:s.next<=4611686018427386000) (n:Int) :
  Calls Tryz.prog 62 #[.pointer (some ⟨kb,0,none⟩),.int .i64 n] w fun e w' =>
   ∃ mv Q',e=.returned (entryV (R.lineOf s n) mv)/\w'.ownsRow w.heap.size 95 3 mv (R.lineOf s n).mis.length (missCells (R.lineOf s n).mis)/\KPK Q' w' kb (R.entry s n)/\(∀ b,Q' b->Q b\/w.heap.size<=b)/\(∀ b,mv.ownBlock=some b->¬ Q' b)/\Turns Q w w':=by
 have hbA:Below w.heap.size w (w.alloc (.cells #[.int .i64 0,.int .i64 0,.int .i64 0,.int .i64 0,.int .i64 0,.slice none 0 0,.slice none 0 0] 75)):=(Below.refl _ _).alloc (Nat.le_refl _) _
 have XA:=Blk.new w #[.int .i64 0,.int .i64 0,.int .i64 0,.int .i64 0,.int .i64 0,.slice none 0 0,.slice none 0 0] 75
 have hlt:=kframe.lt k
 by_cases hn:n=-1
 ·have E1:R.lineOf s n=⟨-1,0,0,R.tickE s,(R.tickS s).now,R.running (R.tickS s),R.tickL s⟩:=by unfold R.lineOf; rw [if_pos hn]
  have E2:R.entry s n=R.tickS s:=by unfold R.entry; rw [if_pos hn]
  rw [E1,E2]
  clear E1 E2
  subst hn
  unfold entryV
  dsimp only
  have KA:=hid (kframe.below k hbA)
  have CT:=hid (fun wx (kx:KPK Q wx kb s)=>cTick Q wx kb s kx hnx)
  have HLT:Hid (∀ b,Q b->b < w.heap.size):=hlt
  clear k hlt
  generalize R.tickE s=te at *
  generalize R.tickL s=tl at *
  generalize R.tickS s=ts at *
  go_enter Tryz.func62,Tryz.ntmps62
  go_upto_region 1 with fail
  generalize w.alloc (.cells #[.int .i64 0,.int .i64 0,.int .i64 0,.int .i64 0,.int .i64 0,.slice none 0 0,.slice none 0 0] 75)=wA at hbA XA KA ⊢
  have CTA:=hid (CT.out wA KA.out)
  have HBA:=hid hbA
  have XL:=hid XA
  have hszA:=hbA.size
  have hxl:=XA.lt
  clear CT hbA XA
  go_wp2_with fail
  refine CTA.out.mono ?_
  rintro e w2 ⟨v,Q',rfl,hr2,k2,hs2,hn2,t2⟩
  obtain ⟨va,vc,rfl,_,_⟩:=owns_cells hr2
  have R2:=hid hr2
  have K2:=hid k2
  have HS2:=hid hs2
  have HN2:=hid hn2
  have T2:=hid t2
  have hnx:¬ Q w.heap.size:=fun hq=>by have:=HLT.out _ hq; omega
  have X2:Hid (Blk w2 w.heap.size #[.int .i64 0,.int .i64 0,.int .i64 0,.int .i64 0,.int .i64 0,.slice none 0 0,.slice none 0 0] 75):=by
   have h1:=XL.out
   unfold Blk at h1 ⊢
   rw [t2.block _ XL.out.lt hnx]
   exact hid h1
  have hsz2:=t2.size
  clear hr2 k2 hs2 hn2 t2 CTA
  have x0:=X2.out.cell 0
  have x1:=X2.out.cell 1
  have x2:=X2.out.cell 2
  have x3:=X2.out.cell 3
  have x4:=X2.out.cell 4
  have x5:=X2.out.cell 5
  have x6:=X2.out.cell 6
  simp at x0 x1 x2 x3 x4 x5 x6
  have z0:=X2.out.frozen 0
  have z1:=X2.out.frozen 1
  have z2:=X2.out.frozen 2
  have z3:=X2.out.frozen 3
  have z4:=X2.out.frozen 4
  have z5:=X2.out.frozen 5
  have z6:=X2.out.frozen 6
  have hxl2:=X2.out.lt
  go_wp2
  refine bodyPost_ret (v:=.agg #[.int .i64 (-1),.int .i64 0,.int .i64 0,.int .i64 te,.int .i64 0,.slice none 0 0,.slice va tl.length vc]) ?_ rfl ⟨_,Q',rfl,?_⟩
  ·simp [results,Tryz.results62,go_sem,x0,x1,x2,x3,x4,x5,x6]
  ·generalize hw9:((((((w2.setCell ⟨w.heap.size,0,none⟩ (.int .i64 (-1))).setCell ⟨w.heap.size,1,none⟩ (.int .i64 0)).setCell ⟨w.heap.size,2,none⟩ (.int .i64 0)).setCell ⟨w.heap.size,3,none⟩ (.int .i64 te)).setCell ⟨w.heap.size,4,none⟩ (.int .i64 0)).setCell ⟨w.heap.size,5,none⟩ (.slice none 0 0)).setCell ⟨w.heap.size,6,none⟩ (.slice va tl.length vc)=w9
   have same:∀ b,b ≠ w.heap.size->w9.heap[b]?=w2.heap[b]?:=fun b hb=>by
    rw [<- hw9]
    iterate 7 rw [Below.heap_setCell _ _ _ _ hb]
   have hsz9:w9.heap.size=w2.heap.size:=by
    rw [<- hw9]
    simp [World.setCell]
   have hb9:Below w.heap.size w2 w9:=by
    rw [<- hw9]
    iterate 7 refine Below.setCell ?_ (by simp) _
    exact Below.refl _ _
   clear hw9
   have hnq:∀ b,Q' b->b ≠ w.heap.size:=fun b hb e=>by
    subst e
    rcases HS2.out _ hb with h1 | h1
    ·exact hnx h1
    ·omega
   refine ⟨?_,kframe.frame K2.out (fun b hb=>same b (hnq b hb)) (by omega),fun b hb=>?_,HN2.out,?_⟩
   ·refine ownsRow_mono (ownsRow_same R2.out fun g hg=>same g (fun e=>?_)) hszA
    have:=(ownsRow_block R2.out hg).1
    omega
   ·rcases HS2.out b hb with h1 | h1
    ·exact .inl h1
    ·exact .inr (by omega)
   ·have t3:Turns Q w w2:=(Turns.of_below HBA.out).trans T2.out (fun b hb=>.inl hb)
    exact ⟨hb9.os.trans t3.os,hb9.tape.trans t3.tape,hb9.output.trans t3.output,Nat.le_trans t3.size hb9.size,fun b hb hn=>(hb9.block b hb).trans (t3.block b hb hn)⟩
 ·have E1:R.lineOf s n=⟨R.pickT s n,R.pickA s n,R.pickC s n,R.pickE s n,(R.pickS s n).now,R.running (R.pickS s n),[]⟩:=by unfold R.lineOf; rw [if_neg hn]
  have E2:R.entry s n=R.pickS s n:=by unfold R.entry; rw [if_neg hn]
  rw [E1,E2]
  clear E1 E2
  unfold entryV
  dsimp only
  have KA:=hid (kframe.below k hbA)
  have CP:=hid (fun wx (kx:KPK Q wx kb s)=>cPick Q wx kb s kx hnx n)
  have HLT:Hid (∀ b,Q b->b < w.heap.size):=hlt
  have hnn:(n == -1)=false:=by simpa using hn
  clear k hlt
  generalize R.pickT s n=pt at *
  generalize R.pickA s n=pa at *
  generalize R.pickC s n=pc at *
  generalize R.pickE s n=pe at *
  generalize R.pickS s n=ps at *
  go_enter Tryz.func62,Tryz.ntmps62
  go_upto_region 1 with fail
  generalize w.alloc (.cells #[.int .i64 0,.int .i64 0,.int .i64 0,.int .i64 0,.int .i64 0,.slice none 0 0,.slice none 0 0] 75)=wA at hbA XA KA ⊢
  have CPA:=hid (CP.out wA KA.out)
  have HBA:=hid hbA
  have XL:=hid XA
  have hszA:=hbA.size
  have hxl:=XA.lt
  clear CP hbA XA
  go_wp2_with fail
  refine CPA.out.mono ?_
  rintro e w1 ⟨rfl,Q',k1,hs1,t1⟩
  have hbR:Below w1.heap.size w1 (w1.alloc (.cells #[.int .i64 pt,.int .i64 pa,.int .i64 pc] 72)):=(Below.refl _ _).alloc (Nat.le_refl _) _
  have XR:=Blk.new w1 #[.int .i64 pt,.int .i64 pa,.int .i64 pc] 72
  have hsz1:=t1.size
  go_upto_region 5 with fail
  generalize w1.alloc (.cells #[.int .i64 pt,.int .i64 pa,.int .i64 pc] 72)=w2 at hbR XR ⊢
  have K2:=hid (kframe.below k1 hbR)
  have HS2:=hid hs1
  have t2:Turns Q wA w2:=t1.trans (Turns.of_below (Q:=fun _=>False) hbR) (fun b hb=>hb.elim)
  have T2:=hid t2
  have hnx:¬ Q w.heap.size:=fun hq=>by have:=HLT.out _ hq; omega
  have X2:Hid (Blk w2 w.heap.size #[.int .i64 0,.int .i64 0,.int .i64 0,.int .i64 0,.int .i64 0,.slice none 0 0,.slice none 0 0] 75):=by
   have h1:=XL.out
   unfold Blk at h1 ⊢
   rw [t2.block _ XL.out.lt hnx]
   exact hid h1
  have hsz2:=t2.size
  have r0:=XR.cell 0
  have r1:=XR.cell 1
  have r2:=XR.cell 2
  simp at r0 r1 r2
  clear k1 hs1 t1 t2 hbR XR CPA
  have x0:=X2.out.cell 0
  have x1:=X2.out.cell 1
  have x2:=X2.out.cell 2
  have x3:=X2.out.cell 3
  have x4:=X2.out.cell 4
  have x5:=X2.out.cell 5
  have x6:=X2.out.cell 6
  simp at x0 x1 x2 x3 x4 x5 x6
  have z0:=X2.out.frozen 0
  have z1:=X2.out.frozen 1
  have z2:=X2.out.frozen 2
  have z3:=X2.out.frozen 3
  have z4:=X2.out.frozen 4
  have z5:=X2.out.frozen 5
  have z6:=X2.out.frozen 6
  have hxl2:=X2.out.lt
  go_wp2
  refine bodyPost_ret (v:=.agg #[.int .i64 pt,.int .i64 pa,.int .i64 pc,.int .i64 pe,.int .i64 0,.slice none 0 0,.slice none 0 0]) ?_ rfl ⟨_,Q',rfl,?_⟩
  ·simp [results,Tryz.results62,go_sem,x0,x1,x2,x3,x4,x5,x6]
  ·generalize hw9:((((((w2.setCell ⟨w.heap.size,0,none⟩ (.int .i64 pt)).setCell ⟨w.heap.size,1,none⟩ (.int .i64 pa)).setCell ⟨w.heap.size,2,none⟩ (.int .i64 pc)).setCell ⟨w.heap.size,3,none⟩ (.int .i64 pe)).setCell ⟨w.heap.size,4,none⟩ (.int .i64 0)).setCell ⟨w.heap.size,5,none⟩ (.slice none 0 0)).setCell ⟨w.heap.size,6,none⟩ (.slice none 0 0)=w9
   have same:∀ b,b ≠ w.heap.size->w9.heap[b]?=w2.heap[b]?:=fun b hb=>by
    rw [<- hw9]
    iterate 7 rw [Below.heap_setCell _ _ _ _ hb]
   have hsz9:w9.heap.size=w2.heap.size:=by
    rw [<- hw9]
    simp [World.setCell]
   have hb9:Below w.heap.size w2 w9:=by
    rw [<- hw9]
    iterate 7 refine Below.setCell ?_ (by simp) _
    exact Below.refl _ _
   clear hw9
   have hnq:∀ b,Q' b->b ≠ w.heap.size:=fun b hb e=>by
    subst e
    rcases HS2.out _ hb with h1 | h1
    ·exact hnx h1
    ·omega
   refine ⟨World.ownsRow_nil _ _ _ _,kframe.frame K2.out (fun b hb=>same b (hnq b hb)) (by omega),fun b hb=>?_,fun b hb=>(by cases hb),?_⟩
   ·rcases HS2.out b hb with h1 | h1
    ·exact .inl h1
    ·exact .inr (by omega)
   ·have t3:Turns Q w w2:=(Turns.of_below HBA.out).trans T2.out (fun b hb=>.inl hb)
    exact ⟨hb9.os.trans t3.os,hb9.tape.trans t3.tape,hb9.output.trans t3.output,Nat.le_trans t3.size hb9.size,fun b hb hn=>(hb9.block b hb).trans (t3.block b hb hn)⟩
structure Laid (B:Nat) (w:World) (Q:Nat->Prop) (g n:Nat) (C:List Value) (L:List LineD):Prop where
 row:w.ownsRow B 75 7 (.slice (some ⟨g,0,none⟩) n n) n C
 lines:LRow B w Q C L
 ng:¬ Q g
 dist:LDist C L.length
theorem lineOf_parts (s:RS) (n:Int):(R.lineOf s n).now=(R.entry s n).now/\(R.lineOf s n).run=R.running (R.entry s n):=by
 unfold R.lineOf R.entry
 split
 ·exact ⟨rfl,rfl⟩
 ·exact ⟨rfl,rfl⟩
set_option maxRecDepth 100000 in
set_option maxHeartbeats 4000000 in
theorem kPlay_any (Q:Nat->Prop) (w:World) (kb:Nat) (s:RS) (k:KPK Q w kb s) (B0:Nat) (hB0:B0<=w.heap.size) (hQ:∀ b,Q b->B0<=b) (av:Option Addr) (ac:Nat) (l:List Int) (hl:IntsIn B0 w av l) (hl1000:l.length<=1000) (hnx:s.next<=1000) :
  Calls Tryz.prog 26 #[.pointer (some ⟨kb,0,none⟩),.slice av l.length ac] w fun e w' =>
   ∃ g C,e=.returned (.slice (some ⟨g,0,none⟩) l.length l.length)/\w'.ownsRow w.heap.size 75 7 (.slice (some ⟨g,0,none⟩) l.length l.length) l.length C/\LRow w.heap.size w' (fun _=>False) C (R.linesTo s l l.length)/\LDist C (R.linesTo s l l.length).length/\Turns Q w w':=by
 have HL:=hid hl
 have KK:=hid k
 have HQ:=hid hQ
 have INV:=hid (fun j (hj:j<=1000)=>stTo_inv k.inv l j (by omega))
 clear hl k hQ
 obtain ⟨iT,hiT,hzT0,hzT1,hzT2⟩:=info_parts Tryz.infoLine
 have HIT:=hid (And.intro hiT (And.intro hzT0 (And.intro hzT1 hzT2)))
 clear hiT hzT0 hzT1 hzT2
 go_enter Tryz.func26,Tryz.ntmps26
 go_wp2_with (at_make; refine wpList_make_full _ rfl _ _ 33 rfl w.heap.size 75 iT (.agg #[.int .i64 0,.int .i64 0,.int .i64 0,.int .i64 0,.int .i64 0,.slice none 0 0,.slice none 0 0]) 7 Tryz.underlying33 HIT.out.1 HIT.out.2.1 HIT.out.2.2.1 .i64 .i64 _ _ l.length rfl rfl rfl rfl (by rw [HIT.out.2.2.2]; omega) (by unfold maxLen; omega) (Nat.le_refl _) ?_; intro w2 hown2 hg2; have O2:=hid hown2; have G2:=hid hg2; clear hown2 hg2)
 have hb2:Below w.heap.size w w2:=(Below.refl _ _).grown G2.out (Nat.le_refl _) (by simp)
 have HB2:=hid hb2
 have ng0:¬ Q w.heap.size:=fun hq=>by have:=kframe.lt KK.out _ hq; omega
 have hsz2:=hb2.size
 have LAID0:Hid (∃ C,Laid w.heap.size w2 Q w.heap.size l.length C (R.linesTo s l 0)):=⟨_,O2.out,LRow.nil _ _ _ _,ng0,fun _ _ _ h=>absurd h (Nat.not_lt_zero _)⟩
 clear hb2 G2 O2 ng0
 go_loopw [14] (fun i wr=>∃ j:Nat,j<=l.length/\i=.int .i64 j/\∃ C Q',Laid w.heap.size wr Q' w.heap.size l.length C (R.linesTo s l j)/\KPK Q' wr kb (R.stTo s l j)/\(∀ b,Q' b->Q b\/w.heap.size<=b)/\Turns Q w wr) (fun i _=>l.length - (intOf i).toNat)
 case atStart =>
  obtain ⟨C,hC⟩:=LAID0.out
  exact ⟨0,Nat.zero_le _,rfl,C,Q,hC,kframe.below KK.out HB2.out,fun _ h=>.inl h,Turns.of_below HB2.out⟩
 case round =>
  obtain ⟨k,hk,rfl,C,Q',hlaid,hkpk,hs,ht⟩:=hrel
  have LD:=hid hlaid
  have K1:=hid hkpk
  have HS:=hid hs
  have T1:=hid ht
  have hszr:=ht.size
  have hCl:C.length=l.length * 7:=hlaid.row.1
  have hnext:=(INV.out k (by omega)).2
  clear hlaid hkpk hs ht
  by_cases hkl:k < l.length
  ·obtain ⟨b,o,hta,hbb,y0⟩:=HL.out k hkl
   subst hta
   have bl:wr.cell? ⟨b,o + k,none⟩=some (.int .i64 l[k]):=by
    rw [World.cell?_of_block (a:=⟨b,o + k,none⟩) (T1.out.block b (by omega) (fun hq=>by have:=HQ.out b hq; omega))]
    exact y0
   have hkI:(k:Int) < (l.length:Int):=by omega
   have EX:Hid (R.linesTo s l (k + 1)=R.linesTo s l k ++ [R.lineOf (R.stTo s l k) l[k]]):=by
    refine hid ?_
    have e:l.getD k 0=l[k]:=by simp [List.getD,hkl]
    show R.linesTo s l k ++ [R.lineOf (R.stTo s l k) (l.getD k 0)]=_
    rw [e]
   have EY:Hid (R.stTo s l (k + 1)=R.entry (R.stTo s l k) l[k]):=by
    refine hid ?_
    have e:l.getD k 0=l[k]:=by simp [List.getD,hkl]
    show R.entry (R.stTo s l k) (l.getD k 0)=_
    rw [e]
   have PE:=hid (kPlayEntry_any Q' wr kb (R.stTo s l k) K1.out (by omega) l[k])
   obtain ⟨ep1,ep2⟩:=lineOf_parts (R.stTo s l k) l[k]
   have EP:=hid (And.intro ep1 ep2)
   have HLL:=hid (R.linesTo_length s l k)
   clear y0 ep1 ep2
   generalize R.lineOf (R.stTo s l k) l[k]=x at *
   generalize R.entry (R.stTo s l k) l[k]=se at *
   generalize R.linesTo s l k=LL at *
   generalize R.stTo s l k=sk at *
   generalize l[k]=n at *
   go_wp2_with fail
   refine PE.out.mono ?_
   rintro e w1 ⟨mv,Q2,rfl,hr1,k1,hs1,hn1,t1⟩
   obtain ⟨va,vc,rfl,_,_⟩:=owns_cells hr1
   unfold entryV
   have hsz1:=t1.size
   have hbA:Below w1.heap.size w1 (w1.alloc (.cells #[.int .i64 x.th,.int .i64 x.at_,.int .i64 x.cd,.int .i64 x.er,.int .i64 0,.slice none 0 0,.slice va x.mis.length vc] 75)):=(Below.refl _ _).alloc (Nat.le_refl _) _
   have XA:=Blk.new w1 #[.int .i64 x.th,.int .i64 x.at_,.int .i64 x.cd,.int .i64 x.er,.int .i64 0,.slice none 0 0,.slice va x.mis.length vc] 75
   go_upto_region 6 with fail
   generalize w1.alloc (.cells #[.int .i64 x.th,.int .i64 x.at_,.int .i64 x.cd,.int .i64 x.er,.int .i64 0,.slice none 0 0,.slice va x.mis.length vc] 75)=wA at hbA XA ⊢
   have hng:¬ Q2 w1.heap.size:=fun hq=>by have:=kframe.lt k1 _ hq; omega
   have kA:=kframe.below k1 hbA
   obtain ⟨F,h,tk,wt,wks,m,_⟩:=kA.open
   have c0:=m.blk.cell 0
   simp [kCells] at c0
   clear m
   have lrA:LRow w.heap.size wA Q2 C LL:=(LD.out.lines.turns t1 hs1).below hbA
   have hgl:w.heap.size < wr.heap.size:=(ownsRow_block LD.out.row rfl).2.1
   have rowA:wA.ownsRow w.heap.size 75 7 (.slice (some ⟨w.heap.size,0,none⟩) l.length l.length) l.length C:=ownsRow_same LD.out.row fun g hg=>by
    obtain rfl:g=w.heap.size:=by cases hg; rfl
    rw [hbA.block _ (by omega),t1.block _ hgl LD.out.ng]
   have ng2:¬ Q2 w.heap.size:=fun hq=>by
    rcases hs1 _ hq with h1 | h1
    ·exact LD.out.ng h1
    ·omega
   have misA:wA.ownsRow w.heap.size 95 3 (.slice va x.mis.length vc) x.mis.length (missCells x.mis):=ownsRow_mono (ownsRow_same hr1 fun g hg=>hbA.block g (ownsRow_block hr1 hg).2.1) (by omega)
   have hS2:Hid (∀ b,Q2 b->Q b\/w.heap.size<=b):=fun b hb=>by
    rcases hs1 b hb with h1 | h1
    ·exact HS.out b h1
    ·exact .inr (by omega)
   have tA:Turns Q w wA:=(T1.out.trans t1 HS.out).trans (Turns.of_below (Q:=fun _=>False) hbA) (fun b hb=>hb.elim)
   have x0:=XA.cell 4
   simp at x0
   have z4:=XA.frozen 4
   have NM:=hid hn1
   have hszA:=hbA.size
   have hxlA:=XA.lt
   have OLD:Hid (∀ i p u g,i < k->(p=5\/p=6)->C[i * 7 + p]?=some u->u.ownBlock=some g->g < wr.heap.size):=fun i p u g hi hp hu hg=>LD.out.lines.old (by rw [HLL.out]; exact hi) hp hu hg
   have NEWM:Hid (∀ g,(Value.slice va x.mis.length vc).ownBlock=some g->wr.heap.size<=g):=fun g hg=>(ownsRow_block hr1 hg).1
   have DST:=hid LD.out.dist
   clear LD K1 T1 HS PE hr1 k1 hs1 hn1 t1
   go_upto_region 7 with fail
   have xB:Blk (wA.setCell ⟨w1.heap.size,4,none⟩ (.int .i64 se.now)) w1.heap.size #[.int .i64 x.th,.int .i64 x.at_,.int .i64 x.cd,.int .i64 x.er,.int .i64 se.now,.slice none 0 0,.slice va x.mis.length vc] 75:=by
    have:=XA.set 4 (.int .i64 se.now)
    simpa using this
   have sameB:∀ b,b ≠ w1.heap.size->(wA.setCell ⟨w1.heap.size,4,none⟩ (.int .i64 se.now)).heap[b]?=wA.heap[b]?:=fun b hb=>Below.heap_setCell _ _ _ _ hb
   have hszB:(wA.setCell ⟨w1.heap.size,4,none⟩ (.int .i64 se.now)).heap.size=wA.heap.size:=by simp [World.setCell]
   have tB:Turns Q w (wA.setCell ⟨w1.heap.size,4,none⟩ (.int .i64 se.now)):=tA.trans (Turns.of_only (Q:=fun b=>b=w1.heap.size) ((Only.refl [w1.heap.size] wA).setCell (.inl (by simp)) _) (fun b hb=>by simpa using hb)) (fun b hb=>.inr (by omega))
   have kB:KPK Q2 (wA.setCell ⟨w1.heap.size,4,none⟩ (.int .i64 se.now)) kb se:=kframe.frame kA (fun b hb=>sameB b (fun e=>hng (e ▸ hb))) (by omega)
   have lineT:Typ wA w1.heap.size 75:=⟨_,XA⟩
   have lrB:LRow w.heap.size (wA.setCell ⟨w1.heap.size,4,none⟩ (.int .i64 se.now)) Q2 C LL:=lrA.turn (fun b hb _ ht=>sameB b (fun e=>by
    subst e
    rcases ht with ht | ht
    ·exact ht.ne lineT (by decide) rfl
    ·exact ht.ne lineT (by decide) rfl)) (fun _ h=>.inl h)
   have rowB:(wA.setCell ⟨w1.heap.size,4,none⟩ (.int .i64 se.now)).ownsRow w.heap.size 75 7 (.slice (some ⟨w.heap.size,0,none⟩) l.length l.length) l.length C:=ownsRow_same rowA fun g hg=>by
    obtain rfl:g=w.heap.size:=by cases hg; rfl
    exact sameB _ (by omega)
   have misB:(wA.setCell ⟨w1.heap.size,4,none⟩ (.int .i64 se.now)).ownsRow w.heap.size 95 3 (.slice va x.mis.length vc) x.mis.length (missCells x.mis):=ownsRow_same misA fun g hg=>sameB g (fun e=>by
    subst e
    exact (own_typ misA hg).ne lineT (by decide) rfl)
   clear XA hbA kA lrA rowA misA tA x0 z4 sameB lineT c0
   generalize wA.setCell ⟨w1.heap.size,4,none⟩ (.int .i64 se.now)=wB at *
   have CR:=hid (cRunning Q2 wB kb se kB)
   rw [<- EP.out.2] at CR
   go_wp2_with fail
   refine CR.out.mono ?_
   rintro e w3 ⟨rv,rfl,hr3,hb3⟩
   obtain ⟨ra,rc,rfl,_,_⟩:=owns_cells hr3
   have x3:=xB.below' hb3
   have sameC:∀ b,b ≠ w1.heap.size->(w3.setCell ⟨w1.heap.size,5,none⟩ (.slice ra x.run.length rc)).heap[b]?=w3.heap[b]?:=fun b hb=>Below.heap_setCell _ _ _ _ hb
   have hsz3:=hb3.size
   have NEWR:Hid (∀ g,(Value.slice ra x.run.length rc).ownBlock=some g->wr.heap.size<=g):=fun g hg=>by have:=(ownsRow_block hr3 hg).1; omega
   have hszC:(w3.setCell ⟨w1.heap.size,5,none⟩ (.slice ra x.run.length rc)).heap.size=w3.heap.size:=by simp [World.setCell]
   have x4:Blk (w3.setCell ⟨w1.heap.size,5,none⟩ (.slice ra x.run.length rc)) w1.heap.size #[.int .i64 x.th,.int .i64 x.at_,.int .i64 x.cd,.int .i64 x.er,.int .i64 x.now,.slice ra x.run.length rc,.slice va x.mis.length vc] 75:=by
    have:=x3.set 5 (.slice ra x.run.length rc)
    rw [EP.out.1]
    simpa using this
   have lineT:Typ w3 w1.heap.size 75:=⟨_,x3⟩
   have notint:∀ b,Typ w3 b 3\/Typ w3 b 95->b ≠ w1.heap.size:=fun b ht e=>by
    subst e
    rcases ht with ht | ht
    ·exact ht.ne lineT (by decide) rfl
    ·exact ht.ne lineT (by decide) rfl
   have mis3:w3.ownsRow w.heap.size 95 3 (.slice va x.mis.length vc) x.mis.length (missCells x.mis):=ownsRow_same misB fun g hg=>hb3.block g (ownsRow_block misB hg).2.1
   have lm:LineMem w.heap.size (w3.setCell ⟨w1.heap.size,5,none⟩ (.slice ra x.run.length rc)) Q2 x (.slice ra x.run.length rc) (.slice va x.mis.length vc):=by
    refine ⟨?_,?_,fun b hb hq=>?_,NM.out⟩
    ·exact ownsRow_mono (ownsRow_same hr3 fun g hg=>sameC g (notint g (.inl (own_typ hr3 hg)))) (by omega)
    ·exact ownsRow_same mis3 fun g hg=>sameC g (notint g (.inr (own_typ mis3 hg)))
    ·have h1:=(ownsRow_block hr3 hb).1
     have h2:=kframe.lt kB b hq
     omega
   have lr4:LRow w.heap.size (w3.setCell ⟨w1.heap.size,5,none⟩ (.slice ra x.run.length rc)) Q2 C LL:=(lrB.below hb3).turn (fun b _ _ ht=>sameC b (notint b ht)) (fun _ h=>.inl h)
   have row4:(w3.setCell ⟨w1.heap.size,5,none⟩ (.slice ra x.run.length rc)).ownsRow w.heap.size 75 7 (.slice (some ⟨w.heap.size,0,none⟩) l.length l.length) l.length C:=ownsRow_same rowB fun g hg=>by
    obtain rfl:g=w.heap.size:=by cases hg; rfl
    rw [sameC _ (by omega),hb3.block _ (by omega)]
   have k4:KPK Q2 (w3.setCell ⟨w1.heap.size,5,none⟩ (.slice ra x.run.length rc)) kb se:=kframe.frame (kframe.below kB hb3) (fun b hb=>sameC b (fun e=>hng (e ▸ hb))) (by omega)
   have t4:Turns Q w (w3.setCell ⟨w1.heap.size,5,none⟩ (.slice ra x.run.length rc)):=(tB.trans (Turns.of_below (Q:=fun _=>False) hb3) (fun b hb=>hb.elim)).trans (Turns.of_only (Q:=fun b=>b=w1.heap.size) ((Only.refl [w1.heap.size] w3).setCell (.inl (by simp)) _) (fun b hb=>by simpa using hb)) (fun b hb=>.inr (by omega))
   have y5:=x3.cell 5
   simp at y5
   have z5:=x3.frozen 5
   have hxl3:=x3.lt
   clear CR xB kB lrB rowB misB tB hr3 hb3 x3 lineT notint mis3 sameC
   go_upto_region 8 with fail
   clear y5 z5 hxl3
   generalize w3.setCell ⟨w1.heap.size,5,none⟩ (.slice ra x.run.length rc)=w4 at *
   have R4:=hid row4
   have LR4:=hid lr4
   have LM:=hid lm
   have K4:=hid k4
   have T4:=hid t4
   have q0:=x4.cell 0
   have q1:=x4.cell 1
   have q2:=x4.cell 2
   have q3:=x4.cell 3
   have q4:=x4.cell 4
   have q5:=x4.cell 5
   have q6:=x4.cell 6
   simp at q0 q1 q2 q3 q4 q5 q6
   have hxl4:=x4.lt
   clear row4 lr4 lm k4 t4 x4
   have d0:w4.cell? ⟨w.heap.size,k * 7,none⟩=some (C[k * 7]'(by omega)):=by rw [R4.out.cellAt _ (by omega)]; exact List.getElem?_eq_getElem _
   have e0:=R4.out.frozenAt (k * 7)
   have d1:w4.cell? ⟨w.heap.size,k * 7 + 1,none⟩=some (C[k * 7 + 1]'(by omega)):=by rw [R4.out.cellAt _ (by omega)]; exact List.getElem?_eq_getElem _
   have e1:=R4.out.frozenAt (k * 7 + 1)
   have d2:w4.cell? ⟨w.heap.size,k * 7 + 2,none⟩=some (C[k * 7 + 2]'(by omega)):=by rw [R4.out.cellAt _ (by omega)]; exact List.getElem?_eq_getElem _
   have e2:=R4.out.frozenAt (k * 7 + 2)
   have d3:w4.cell? ⟨w.heap.size,k * 7 + 3,none⟩=some (C[k * 7 + 3]'(by omega)):=by rw [R4.out.cellAt _ (by omega)]; exact List.getElem?_eq_getElem _
   have e3:=R4.out.frozenAt (k * 7 + 3)
   have d4:w4.cell? ⟨w.heap.size,k * 7 + 4,none⟩=some (C[k * 7 + 4]'(by omega)):=by rw [R4.out.cellAt _ (by omega)]; exact List.getElem?_eq_getElem _
   have e4:=R4.out.frozenAt (k * 7 + 4)
   have d5:w4.cell? ⟨w.heap.size,k * 7 + 5,none⟩=some (C[k * 7 + 5]'(by omega)):=by rw [R4.out.cellAt _ (by omega)]; exact List.getElem?_eq_getElem _
   have e5:=R4.out.frozenAt (k * 7 + 5)
   have d6:w4.cell? ⟨w.heap.size,k * 7 + 6,none⟩=some (C[k * 7 + 6]'(by omega)):=by rw [R4.out.cellAt _ (by omega)]; exact List.getElem?_eq_getElem _
   have e6:=R4.out.frozenAt (k * 7 + 6)
   have rAll:=(((((((R4.out.stored (k * 7) (.int .i64 x.th)).1.stored (k * 7 + 1) (.int .i64 x.at_)).1.stored (k * 7 + 2) (.int .i64 x.cd)).1.stored (k * 7 + 3) (.int .i64 x.er)).1.stored (k * 7 + 4) (.int .i64 x.now)).1.stored (k * 7 + 5) (.slice ra x.run.length rc)).1.stored (k * 7 + 6) (.slice va x.mis.length vc)).1
   have FIN:Hid (Laid w.heap.size (((((((w4.setCell ⟨w.heap.size,k * 7,none⟩ (.int .i64 x.th)).setCell ⟨w.heap.size,k * 7 + 1,none⟩ (.int .i64 x.at_)).setCell ⟨w.heap.size,k * 7 + 2,none⟩ (.int .i64 x.cd)).setCell ⟨w.heap.size,k * 7 + 3,none⟩ (.int .i64 x.er)).setCell ⟨w.heap.size,k * 7 + 4,none⟩ (.int .i64 x.now)).setCell ⟨w.heap.size,k * 7 + 5,none⟩ (.slice ra x.run.length rc)).setCell ⟨w.heap.size,k * 7 + 6,none⟩ (.slice va x.mis.length vc)) Q2 w.heap.size l.length (((((((C.set (k * 7) (.int .i64 x.th)).set (k * 7 + 1) (.int .i64 x.at_)).set (k * 7 + 2) (.int .i64 x.cd)).set (k * 7 + 3) (.int .i64 x.er)).set (k * 7 + 4) (.int .i64 x.now)).set (k * 7 + 5) (.slice ra x.run.length rc)).set (k * 7 + 6) (.slice va x.mis.length vc)) (LL ++ [x])/\KPK Q2 (((((((w4.setCell ⟨w.heap.size,k * 7,none⟩ (.int .i64 x.th)).setCell ⟨w.heap.size,k * 7 + 1,none⟩ (.int .i64 x.at_)).setCell ⟨w.heap.size,k * 7 + 2,none⟩ (.int .i64 x.cd)).setCell ⟨w.heap.size,k * 7 + 3,none⟩ (.int .i64 x.er)).setCell ⟨w.heap.size,k * 7 + 4,none⟩ (.int .i64 x.now)).setCell ⟨w.heap.size,k * 7 + 5,none⟩ (.slice ra x.run.length rc)).setCell ⟨w.heap.size,k * 7 + 6,none⟩ (.slice va x.mis.length vc)) kb se/\Turns Q w (((((((w4.setCell ⟨w.heap.size,k * 7,none⟩ (.int .i64 x.th)).setCell ⟨w.heap.size,k * 7 + 1,none⟩ (.int .i64 x.at_)).setCell ⟨w.heap.size,k * 7 + 2,none⟩ (.int .i64 x.cd)).setCell ⟨w.heap.size,k * 7 + 3,none⟩ (.int .i64 x.er)).setCell ⟨w.heap.size,k * 7 + 4,none⟩ (.int .i64 x.now)).setCell ⟨w.heap.size,k * 7 + 5,none⟩ (.slice ra x.run.length rc)).setCell ⟨w.heap.size,k * 7 + 6,none⟩ (.slice va x.mis.length vc))):=by
    have hgl4:w.heap.size < w4.heap.size:=(ownsRow_block R4.out rfl).2.1
    have lineT:Typ w4 w.heap.size 75:=own_typ R4.out rfl
    generalize hw9:((((((w4.setCell ⟨w.heap.size,k * 7,none⟩ (.int .i64 x.th)).setCell ⟨w.heap.size,k * 7 + 1,none⟩ (.int .i64 x.at_)).setCell ⟨w.heap.size,k * 7 + 2,none⟩ (.int .i64 x.cd)).setCell ⟨w.heap.size,k * 7 + 3,none⟩ (.int .i64 x.er)).setCell ⟨w.heap.size,k * 7 + 4,none⟩ (.int .i64 x.now)).setCell ⟨w.heap.size,k * 7 + 5,none⟩ (.slice ra x.run.length rc)).setCell ⟨w.heap.size,k * 7 + 6,none⟩ (.slice va x.mis.length vc)=w9
    have rAll2:=rAll
    rw [hw9] at rAll2
    have same:∀ b,b ≠ w.heap.size->w9.heap[b]?=w4.heap[b]?:=fun b hb=>by
     rw [<- hw9]
     iterate 7 rw [Below.heap_setCell _ _ _ _ hb]
    have hsz9:w9.heap.size=w4.heap.size:=by
     rw [<- hw9]
     simp [World.setCell]
    have o9:Only [w.heap.size] w4 w9:=by
     rw [<- hw9]
     iterate 7 refine Only.setCell ?_ (.inl (by simp)) _
     exact Only.refl _ _
    clear hw9
    have notint:∀ b,Typ w4 b 3\/Typ w4 b 95->b ≠ w.heap.size:=fun b ht e=>by
     subst e
     rcases ht with ht | ht
     ·exact ht.ne lineT (by decide) rfl
     ·exact ht.ne lineT (by decide) rfl
    have lm9:LineMem w.heap.size w9 Q2 x (.slice ra x.run.length rc) (.slice va x.mis.length vc):=LM.out.turn (fun b _ _ ht=>same b (notint b ht)) (fun _ h=>.inl h)
    have lr9:LRow w.heap.size w9 Q2 C LL:=LR4.out.turn (fun b _ _ ht=>same b (notint b ht)) (fun _ h=>.inl h)
    have ho9:∀ i,i < LL.length->∀ j,j < 7->(((((((C.set (k * 7) (.int .i64 x.th)).set (k * 7 + 1) (.int .i64 x.at_)).set (k * 7 + 2) (.int .i64 x.cd)).set (k * 7 + 3) (.int .i64 x.er)).set (k * 7 + 4) (.int .i64 x.now)).set (k * 7 + 5) (.slice ra x.run.length rc)).set (k * 7 + 6) (.slice va x.mis.length vc))[i * 7 + j]?=C[i * 7 + j]?:=fun i hi j hj=>(by rw [set7 C k _ _ _ _ _ _ _ (by omega) i j hj,if_neg (by have:=HLL.out; omega)])
    have hx9:∀ j,j < 7->(((((((C.set (k * 7) (.int .i64 x.th)).set (k * 7 + 1) (.int .i64 x.at_)).set (k * 7 + 2) (.int .i64 x.cd)).set (k * 7 + 3) (.int .i64 x.er)).set (k * 7 + 4) (.int .i64 x.now)).set (k * 7 + 5) (.slice ra x.run.length rc)).set (k * 7 + 6) (.slice va x.mis.length vc))[LL.length * 7 + j]?=(lineCells x (.slice ra x.run.length rc) (.slice va x.mis.length vc))[j]?:=fun j hj=>(by
     rw [HLL.out,set7 C k _ _ _ _ _ _ _ (by omega) k j hj,if_pos rfl]
     rfl)
    refine ⟨⟨rAll2,lr9.snoc lm9 ho9 hx9,ng2,?_⟩,kframe.frame K4.out (fun b hb=>same b (fun e=>ng2 (e ▸ hb))) (by omega),T4.out.trans (Turns.of_only (Q:=fun b=>b=w.heap.size) o9 (fun b hb=>by simpa using hb)) (fun b hb=>.inr (by omega))⟩
    have:=DST.out.snoc (N:=wr.heap.size) ho9 hx9 (fun i p u g hi hp hu hg=>OLD.out i p u g (by rw [<- HLL.out]; exact hi) hp hu hg) NEWR.out NEWM.out
    rw [List.length_append]
    exact this
   clear rAll R4 LR4 LM K4 T4
   generalize C[k * 7]'(by omega)=o0 at *
   generalize C[k * 7 + 1]'(by omega)=o1 at *
   generalize C[k * 7 + 2]'(by omega)=o2 at *
   generalize C[k * 7 + 3]'(by omega)=o3 at *
   generalize C[k * 7 + 4]'(by omega)=o4 at *
   generalize C[k * 7 + 5]'(by omega)=o5 at *
   generalize C[k * 7 + 6]'(by omega)=o6 at *
   go_wp2
   go_roundw
   case rel=>exact ⟨k + 1,by omega,by go_num,_,Q2,by rw [EX.out]; exact FIN.out.1,by rw [EY.out]; exact FIN.out.2.1,hS2.out,FIN.out.2.2⟩
   case measure=>simp [intOf]; omega
  ·have e:k=l.length:=by omega
   subst e
   go_wp2
   go_ret
   exact ⟨_,C,rfl,LD.out.row,LD.out.lines.turn (fun _ _ _ _=>rfl) (fun _ h=>h.elim),LD.out.dist,T1.out⟩
set_option maxHeartbeats 2000000 in
theorem kRun_any:CRun:=by
 intro tv mv sv qv tc mc sc qc S w hS hF hnil av ac l hl hll
 have hb0:Below w.heap.size w (w.alloc (.cells #[.int .i64 S.workers,.int .i64 S.start,.slice tv S.threads.length tc,.slice mv S.mutexes.length mc,.slice sv S.sems.length sc,.slice qv S.queues.length qc] 27)):=(Below.refl _ _).alloc (Nat.le_refl _) _
 have X0:=Blk.new w #[.int .i64 S.workers,.int .i64 S.start,.slice tv S.threads.length tc,.slice mv S.mutexes.length mc,.slice sv S.sems.length sc,.slice qv S.queues.length qc] 27
 have HS:=hid hS
 have HF:=hid hF
 have HN:=hid hnil
 have HL:=hid hl
 clear hS hF hnil hl
 by_cases hlong:1000 < l.length
 ·obtain ⟨e1,e2⟩:=runL_long (S:=S) hlong
  unfold RunOkD
  rw [e1,e2]
  clear e1 e2
  have hlI:(1000:Int) < (l.length:Int):=by omega
  go_enter Tryz.func16,Tryz.ntmps16
  go_wp2
  go_ret2
  exact ⟨_,[],rfl,World.ownsRow_nil _ _ _ _,LRow.nil _ _ _ _,fun _ _ _ h=>absurd h (Nat.not_lt_zero _),hb0⟩
 ·have hlI:(l.length:Int)<=1000:=by omega
  have CN:=hid (fun wx hSx=>cNew tv mv sv qv tc mc sc qc S wx hSx HF.out HN.out trivial)
  by_cases herr:P3.err S=0
  ·obtain ⟨e1,e2⟩:=runL_ok hlong herr
   unfold RunOkD
   rw [e1,e2]
   clear e1 e2
   have hthr:S.threads.length<=16:=by
    have:=(good_bare herr).few
    rw [bare_len] at this
    exact this
   have hnext:=new_next S hthr
   have HLEN:=hid (R.linesTo_length (R.new S) l l.length)
   have HE:=hid herr
   have HNX:=hid hnext
   clear herr hlong hnext
   have PL:=hid (fun Q wx kb (kx:KPK Q wx kb (R.new S)) B0 hB0 hQ hl=>kPlay_any Q wx kb (R.new S) kx B0 hB0 hQ av ac l hl (by omega) (by have:=HNX.out; omega))
   generalize R.linesTo (R.new S) l l.length=LL at *
   generalize R.new S=s0 at *
   go_enter Tryz.func16,Tryz.ntmps16
   go_upto_region 1 with fail
   generalize w.alloc (.cells #[.int .i64 S.workers,.int .i64 S.start,.slice tv S.threads.length tc,.slice mv S.mutexes.length mc,.slice sv S.sems.length sc,.slice qv S.queues.length qc] 27)=w0 at hb0 X0 ⊢
   have y0:=X0.cell 0
   have y1:=X0.cell 1
   have y2:=X0.cell 2
   have y3:=X0.cell 3
   have y4:=X0.cell 4
   have y5:=X0.cell 5
   simp at y0 y1 y2 y3 y4 y5
   have CN0:=hid (CN.out w0 (HS.out.later hb0))
   have HB0:=hid hb0
   have hsz0:=hb0.size
   clear CN hb0 X0
   go_wp2_with fail
   refine CN0.out.mono ?_
   rintro e w1 ⟨hb1,⟨h1,_⟩ | ⟨_,kb,P,rfl,kp,hp⟩⟩
   ·exact absurd HE.out h1
   ·have HL1:Hid (IntsIn w.heap.size w1 av l):=fun i hi=>by
     obtain ⟨b,o,ha,hlt,hc⟩:=HL.out i hi
     exact ⟨b,o,ha,hlt,by rw [hb1.cell (p:=⟨b,o + i,none⟩) (show b < w0.heap.size by omega),HB0.out.cell (p:=⟨b,o + i,none⟩) hlt]; exact hc⟩
    have hB:Below w.heap.size w w1:=via HB0.out HB0.out.size hb1
    have PL1:=hid (PL.out P w1 kb kp w.heap.size hB.size (fun b hb=>by have:=hp b hb; omega) HL1.out)
    have HP:Hid (∀ b,P b->w.heap.size<=b):=fun b hb=>by have:=hp b hb; omega
    have HB1:=hid hB
    clear CN0 PL kp hp hb1 hB
    go_wp2_with fail
    refine PL1.out.mono ?_
    rintro e w2 ⟨g,C,rfl,hr2,hl2,hd2,t2⟩
    have R2:=hid hr2
    have L2:=hid hl2
    have D2:=hid hd2
    have T2:=hid t2
    clear hr2 hl2 t2 PL1 hd2
    go_wp2
    go_ret2
    refine ⟨_,C,rfl,?_,⟨fun i hi=>?_⟩,D2.out,?_⟩
    ·rw [HLEN.out]
     exact ownsRow_mono R2.out HB1.out.size
    ·obtain ⟨rv,mv,lm,hc⟩:=L2.out.cells i hi
     exact ⟨rv,mv,⟨ownsRow_mono lm.run HB1.out.size,ownsRow_mono lm.mis HB1.out.size,lm.nr,lm.nm⟩,hc⟩
    ·exact HB1.out.trans ⟨T2.out.os,T2.out.tape,T2.out.output,T2.out.size,fun b hb=>T2.out.block b (by have:=HB1.out.size; omega) (fun hq=>by have:=HP.out b hq; omega)⟩
  ·obtain ⟨e1,e2⟩:=runL_bad hlong herr
   unfold RunOkD
   rw [e1,e2]
   clear e1 e2
   have HE:=hid herr
   have hne:(P3.err S != 0)=true:=by simpa using herr
   clear herr hlong
   generalize P3.err S=er at *
   go_enter Tryz.func16,Tryz.ntmps16
   go_upto_region 1 with fail
   generalize w.alloc (.cells #[.int .i64 S.workers,.int .i64 S.start,.slice tv S.threads.length tc,.slice mv S.mutexes.length mc,.slice sv S.sems.length sc,.slice qv S.queues.length qc] 27)=w0 at hb0 X0 ⊢
   have y0:=X0.cell 0
   have y1:=X0.cell 1
   have y2:=X0.cell 2
   have y3:=X0.cell 3
   have y4:=X0.cell 4
   have y5:=X0.cell 5
   simp at y0 y1 y2 y3 y4 y5
   have CN0:=hid (CN.out w0 (HS.out.later hb0))
   have HB0:=hid hb0
   have hsz0:=hb0.size
   clear CN hb0 X0
   go_wp2_with fail
   refine CN0.out.mono ?_
   rintro e w1 ⟨hb1,⟨_,rfl⟩ | ⟨h1,_⟩⟩
   ·have HB1:=hid (via HB0.out HB0.out.size hb1)
    clear CN0 hb1
    go_wp2
    go_ret2
    exact ⟨_,[],rfl,World.ownsRow_nil _ _ _ _,LRow.nil _ _ _ _,fun _ _ _ h=>absurd h (Nat.not_lt_zero _),HB1.out⟩
   ·exact absurd h1 HE.out
end Go.Proofs.YtbkfildnijjioaaGreat

namespace Go.Proofs.YtbkfildnijjioaaGreat
open Go.RowKit
structure RH where
 tv:Option Addr
 mv:Option Addr
 sv:Option Addr
 qv:Option Addr
 tc:Nat
 mc:Nat
 sc:Nat
 qc:Nat
 gT:Nat
 cT:Nat
 vO:Value
 vC:Value
 vB:Value
 vM:Value
 bs:List Value
def rsCells (h:RH) (s:RS):Array Value :=
 #[.int .i64 s.set.workers,.int .i64 s.set.start,.slice h.tv s.set.threads.length h.tc,.slice h.mv s.set.mutexes.length h.mc,.slice h.sv s.set.sems.length h.sc,.slice h.qv s.set.queues.length h.qc,
  .int .i64 s.now,.int .i64 s.next,.slice (some ⟨h.gT,0,none⟩) s.T.length h.cT,h.vO,h.vC,h.vB,h.vM]
structure ROth (w:World) (h:RH) (s:RS):Prop where
 own:w.ownsRow 0 3 1 h.vO s.owner.length (intCells s.owner)
 cnt:w.ownsRow 0 3 1 h.vC s.count.length (intCells s.count)
 mis:w.ownsRow 0 95 3 h.vM s.missed.length (missCells s.missed)
 box:w.ownsRow 0 25 1 h.vB s.box.length h.bs/\∀ i (hi:i < s.box.length),∃ v,h.bs[i]?=some v/\w.ownsRow 0 3 1 v s.box[i].length (intCells s.box[i])
structure RMem (F:Nat->Prop) (w:World) (sb:Nat) (h:RH) (s:RS):Prop where
 blk:Blk w sb (rsCells h s) 82
 rows:w.ownsRow 0 114 13 (.slice (some ⟨h.gT,0,none⟩) s.T.length h.cT) s.T.length (rtAll s.T)
 set:SetF F w h.tv h.mv h.sv h.qv s.set
 oth:ROth w h s
 nsb:¬ F sb
 nT:¬ F h.gT
 lt:∀ b,F b->b < w.heap.size
section
variable {F:Nat->Prop} {w w':World} {sb:Nat} {h:RH} {s:RS}
theorem RMem.gT_lt (m:RMem F w sb h s):h.gT < w.heap.size:=(ownsRow_block m.rows rfl).2.1
theorem RMem.ne (m:RMem F w sb h s):sb ≠ h.gT:=by
 intro e
 obtain ⟨_,_,cur,hc⟩:=ownsRow_block m.rows rfl
 rw [<- e] at hc
 have:=blk_type m.blk hc
 exact absurd this (by decide)
theorem ROth.same {w w':World} {h:RH} {s:RS} (o:ROth w h s) (hs:∀ (g:Nat) (cur:Array Value) (e:TypeId),w.heap[g]?=some (Obj.cells cur e (0,0))->(e=3\/e=95\/e=25)->w'.heap[g]?=w.heap[g]?):ROth w' h s:=by
 have keep:∀ {e:TypeId} {size n:Nat} {v:Value} {xs:List Value},(e=3\/e=95\/e=25)->w.ownsRow 0 e size v n xs->w'.ownsRow 0 e size v n xs:=by
  intro e size n v xs he ho
  refine ownsRow_same ho fun g hg=>?_
  obtain ⟨_,_,cur,hc⟩:=ownsRow_block ho hg
  exact hs g cur e hc he
 obtain ⟨hb,hbi⟩:=o.box
 refine ⟨keep (.inl rfl) o.own,keep (.inl rfl) o.cnt,keep (.inr (.inl rfl)) o.mis,keep (.inr (.inr rfl)) hb,fun i hi=>?_⟩
 obtain ⟨v,hv,hr⟩:=hbi i hi
 exact ⟨v,hv,keep (.inl rfl) hr⟩
theorem RMem.setT (m:RMem F w sb h s) {i j:Nat} (hi:i < s.T.length) (hj:j < 13) (v:Value) (f:RT->RT) (hf:rtCells (f s.T[i])=(rtCells s.T[i]).set j v) :
  RMem F (w.setCell ⟨h.gT,i * 13 + j,none⟩ v) sb h { s with T:=s.T.modify i f }:=by
 have hst:=m.rows.stored (i * 13 + j) v
 have other:∀ (g:Nat) (cur:Array Value) (e:TypeId),w.heap[g]?=some (Obj.cells cur e (0,0))->(e=3\/e=95\/e=25)->(w.setCell ⟨h.gT,i * 13 + j,none⟩ v).heap[g]?=w.heap[g]?:=by
  intro g cur e hg he
  refine Below.heap_setCell _ _ _ _ (fun e'=>?_)
  obtain ⟨_,_,cur',hc'⟩:=ownsRow_block m.rows rfl
  simp only at e'
  rw [<- e',hg] at hc'
  cases hc'
  rcases he with he | he | he <;> exact absurd he (by decide)
 refine ⟨?_,?_,m.set.same fun b hb=>Below.heap_setCell _ _ _ _ (fun e=>m.nT (by have e':b=h.gT:=e; exact e' ▸ hb)),?_,m.nsb,m.nT,fun b hb=>by simpa [World.setCell] using m.lt b hb⟩
 ·have:=m.blk.other (p:=⟨h.gT,i * 13 + j,none⟩) m.ne v
  simpa [rsCells] using this
 ·have h1:=hst.1
  rw [rtAll_set s.T i j hi hj v f hf] at h1
  simpa using h1
 ·have o:=m.oth.same other
  exact ⟨o.own,o.cnt,o.mis,o.box⟩
theorem RMem.only {L:List Nat} (m:RMem F w sb h s) (ho:Only L w w') (h1:sb ∉ L) (h2:h.gT ∉ L) (h3:∀ b,b ∈ L->¬ F b)
  (h4:∀ b,b ∈ L->∀ (cur:Array Value) (e:TypeId),w.heap[b]?=some (Obj.cells cur e (0,0))->¬ (e=3\/e=95\/e=25)):RMem F w' sb h s:=by
 refine ⟨m.blk.only ho h1,?_,m.set.same fun b hb=>ho.block b (m.lt b hb) (fun e=>h3 b e hb),m.oth.same fun g cur e hg he=>?_,m.nsb,m.nT,fun b hb=>Nat.lt_of_lt_of_le (m.lt b hb) ho.size⟩
 ·refine ownsRow_same m.rows fun g hg=>?_
  cases hg
  exact ho.block _ m.gT_lt h2
 ·have hl:g < w.heap.size:=by
   rcases Nat.lt_or_ge g w.heap.size with h' | h'
   ·exact h'
   ·rw [Array.getElem?_eq_none h'] at hg; cases hg
  exact ho.block g hl (fun e'=>h4 g e' cur e hg he)
theorem RMem.below (m:RMem F w sb h s) (hb:Below w.heap.size w w'):RMem F w' sb h s:=m.only (L:=[]) (Only.of_below hb) (by simp) (by simp) (by simp) (by simp)
theorem RMem.drewN (m:RMem F w sb h s) (n:Nat):RMem F (w.drewN n) sb h s:=m.below (bdrewN (Below.refl _ _) n)
theorem RMem.setNext (m:RMem F w sb h s) (n:Int):RMem F (w.setCell ⟨sb,7,none⟩ (.int .i64 n)) sb h { s with next:=n }:=by
 have ho:Only [sb] w (w.setCell ⟨sb,7,none⟩ (.int .i64 n)):=(Only.refl _ _).setCell (.inl (by simp)) _
 have blk:Blk (w.setCell ⟨sb,7,none⟩ (.int .i64 n)) sb (rsCells h { s with next:=n }) 82:=by
  have:=m.blk.set 7 (.int .i64 n)
  simpa [rsCells] using this
 refine ⟨blk,?_,m.set.same fun b hb=>ho.block b (m.lt b hb) (fun e=>m.nsb (by simp at e; exact e ▸ hb)),?_,m.nsb,m.nT,fun b hb=>by simpa [World.setCell] using m.lt b hb⟩
 ·refine ownsRow_same m.rows fun g hg=>?_
  cases hg
  exact ho.block _ m.gT_lt (by simp; exact fun e=>m.ne e.symm)
 ·have o:=m.oth.same (w':=w.setCell ⟨sb,7,none⟩ (.int .i64 n)) fun g cur e hg he=>by
   refine Below.heap_setCell _ _ _ _ (fun e'=>?_)
   simp only at e'
   rw [e'] at hg
   have:=blk_type m.blk hg
   rcases he with he | he | he <;> exact absurd (this.trans he) (by decide)
  exact ⟨o.own,o.cnt,o.mis,o.box⟩
theorem RMem.setNow (m:RMem F w sb h s) (n:Int):RMem F (w.setCell ⟨sb,6,none⟩ (.int .i64 n)) sb h { s with now:=n }:=by
 have ho:Only [sb] w (w.setCell ⟨sb,6,none⟩ (.int .i64 n)):=(Only.refl _ _).setCell (.inl (by simp)) _
 have blk:Blk (w.setCell ⟨sb,6,none⟩ (.int .i64 n)) sb (rsCells h { s with now:=n }) 82:=by
  have:=m.blk.set 6 (.int .i64 n)
  simpa [rsCells] using this
 refine ⟨blk,?_,m.set.same fun b hb=>ho.block b (m.lt b hb) (fun e=>m.nsb (by simp at e; exact e ▸ hb)),?_,m.nsb,m.nT,fun b hb=>by simpa [World.setCell] using m.lt b hb⟩
 ·refine ownsRow_same m.rows fun g hg=>?_
  cases hg
  exact ho.block _ m.gT_lt (by simp; exact fun e=>m.ne e.symm)
 ·have o:=m.oth.same (w':=w.setCell ⟨sb,6,none⟩ (.int .i64 n)) fun g cur e hg he=>by
   refine Below.heap_setCell _ _ _ _ (fun e'=>?_)
   simp only at e'
   rw [e'] at hg
   have:=blk_type m.blk hg
   rcases he with he | he | he <;> exact absurd (this.trans he) (by decide)
  exact ⟨o.own,o.cnt,o.mis,o.box⟩
theorem RMem.setMissed (m:RMem F w sb h s) {w1:World} {v:Value} {l:List MissD} (hg:w.grownBy w1 h.vM.ownBlock) (hF:∀ g,h.vM.ownBlock=some g->¬ F g)
  (hr:w1.ownsRow 0 95 3 v l.length (missCells l)):RMem F (w1.setCell ⟨sb,12,none⟩ v) sb { h with vM:=v } { s with missed:=l }:=by
 have hne:∀ {g:Nat},h.vM.ownBlock=some g->∃ cur,w.heap[g]?=some (Obj.cells cur 95 (0,0)):=fun hv=>(ownsRow_block m.oth.mis hv).2.2
 have sbne:some sb ≠ h.vM.ownBlock:=by
  intro e
  obtain ⟨cur,hc⟩:=hne e.symm
  exact absurd (blk_type m.blk hc) (by decide)
 have gtne:some h.gT ≠ h.vM.ownBlock:=by
  intro e
  obtain ⟨cur,hc⟩:=hne e.symm
  obtain ⟨_,_,cur',hc'⟩:=ownsRow_block m.rows rfl
  rw [hc] at hc'
  cases hc'
 have same:∀ (g:Nat) (cur:Array Value) (e:TypeId),w.heap[g]?=some (Obj.cells cur e (0,0))->e ≠ 95->e ≠ 82->(w1.setCell ⟨sb,12,none⟩ v).heap[g]?=w.heap[g]?:=by
  intro g cur e hg' h1 h2
  have hl:g < w.heap.size:=by
   rcases Nat.lt_or_ge g w.heap.size with h' | h'
   ·exact h'
   ·rw [Array.getElem?_eq_none h'] at hg'; cases hg'
  rw [Below.heap_setCell _ _ _ _ (fun e'=>?_),hg.block g hl (fun e'=>?_)]
  ·obtain ⟨cur',hc'⟩:=hne e'.symm
   rw [hg'] at hc'
   cases hc'
   exact h1 rfl
  ·have e2:g=sb:=e'
   rw [e2] at hg'
   exact h2 (blk_type m.blk hg').symm
 have keep:∀ {e:TypeId} {size n:Nat} {u:Value} {xs:List Value},e ≠ 95->e ≠ 82->w.ownsRow 0 e size u n xs->(w1.setCell ⟨sb,12,none⟩ v).ownsRow 0 e size u n xs:=by
  intro e size n u xs h1 h2 ho
  refine ownsRow_same ho fun g hg'=>?_
  obtain ⟨_,_,cur,hc⟩:=ownsRow_block ho hg'
  exact same g cur e hc h1 h2
 obtain ⟨hb,hbi⟩:=m.oth.box
 refine ⟨?_,?_,m.set.same fun b hb=>?_,⟨keep (by decide) (by decide) m.oth.own,keep (by decide) (by decide) m.oth.cnt,?_,keep (by decide) (by decide) hb,fun i hi=>?_⟩,m.nsb,m.nT,fun b hb=>?_⟩
 ·have:=(m.blk.grown hg sbne).set 12 v
  simpa [rsCells] using this
 ·exact keep (by decide) (by decide) m.rows
 ·rw [Below.heap_setCell _ _ _ _ (fun e=>m.nsb (by have e':b=sb:=e; exact e' ▸ hb)),hg.block b (m.lt b hb) (fun e=>hF b e.symm hb)]
 ·refine ownsRow_same hr fun g hg'=>Below.heap_setCell _ _ _ _ (fun e=>?_)
  obtain ⟨_,_,cur,hc⟩:=ownsRow_block hr hg'
  have e':g=sb:=e
  rw [e'] at hc
  exact absurd (blk_type (m.blk.grown hg sbne) hc) (by decide)
 ·obtain ⟨u,hu,hr'⟩:=hbi i hi
  exact ⟨u,hu,keep (by decide) (by decide) hr'⟩
 ·have:=m.lt b hb
  have:=hg.size
  simp [World.setCell]
  omega
theorem RMem.rebuild (m:RMem F w sb h s) (ho:Only [sb,h.gT] w w') (T':List RT) (hlen:T'.length=s.T.length) (hb:Blk w' sb (rsCells h s) 82)
  (hr:w'.ownsRow 0 114 13 (.slice (some ⟨h.gT,0,none⟩) s.T.length h.cT) s.T.length (rtAll T')):RMem F w' sb h { s with T:=T' }:=by
 refine ⟨by simpa [rsCells,hlen] using hb,by simpa [hlen] using hr,m.set.same fun b hb=>ho.block b (m.lt b hb) (fun e=>?_),?_,m.nsb,m.nT,fun b hb=>Nat.lt_of_lt_of_le (m.lt b hb) ho.size⟩
 ·simp at e
  rcases e with e | e
  ·exact m.nsb (e ▸ hb)
  ·exact m.nT (e ▸ hb)
 ·have o:=m.oth.same (w':=w') fun g cur e hg he=>by
   have hl:g < w.heap.size:=by
    rcases Nat.lt_or_ge g w.heap.size with h' | h'
    ·exact h'
    ·rw [Array.getElem?_eq_none h'] at hg; cases hg
   refine ho.block g hl fun e'=>?_
   simp at e'
   rcases e' with e' | e'
   ·rw [e'] at hg
    have:=blk_type m.blk hg
    rcases he with he | he | he <;> exact absurd (this.trans he) (by decide)
   ·obtain ⟨_,_,cur',hc'⟩:=ownsRow_block m.rows rfl
    rw [e'] at hg
    rw [hg] at hc'
    cases hc'
    rcases he with he | he | he <;> exact absurd he (by decide)
  exact ⟨o.own,o.cnt,o.mis,o.box⟩
end
structure RApart (F:Nat->Prop) (h:RH):Prop where
 o:∀ g,h.vO.ownBlock=some g->¬ F g
 c:∀ g,h.vC.ownBlock=some g->¬ F g/\h.vO.ownBlock ≠ some g
 m:∀ g,h.vM.ownBlock=some g->¬ F g
 b:∀ g,h.vB.ownBlock=some g->¬ F g
 bs:∀ (i:Nat) (v:Value) (g:Nat),h.bs[i]?=some v->v.ownBlock=some g->¬ F g/\h.vO.ownBlock ≠ some g/\h.vC.ownBlock ≠ some g/\∀ (j:Nat) (u:Value),j ≠ i->h.bs[j]?=some u->u.ownBlock ≠ some g
structure RIn (Q F:Nat->Prop) (sb:Nat) (h:RH):Prop where
 f:∀ b,F b->Q b
 sb:Q sb
 t:Q h.gT
 o:∀ g,h.vO.ownBlock=some g->Q g
 c:∀ g,h.vC.ownBlock=some g->Q g
 m:∀ g,h.vM.ownBlock=some g->Q g
 b:∀ g,h.vB.ownBlock=some g->Q g
 bs:∀ (i:Nat) (v:Value) (g:Nat),h.bs[i]?=some v->v.ownBlock=some g->Q g
section
variable {F:Nat->Prop} {w w':World} {sb:Nat} {h:RH} {s:RS}
theorem RMem.turned (m:RMem F w sb h s) {g:Nat} (hs:∀ k,k < w.heap.size->k ≠ g->w'.heap[k]?=w.heap[k]?) (hz:w.heap.size<=w'.heap.size) (h1:sb ≠ g) (h2:h.gT ≠ g) (h3:¬ F g) {h':RH} {s':RS} (o:ROth w' h' s')
  (e1:rsCells h' s'=rsCells h s) (e2:s'.T=s.T) (e3:h'.gT=h.gT/\h'.cT=h.cT/\h'.tv=h.tv/\h'.mv=h.mv/\h'.sv=h.sv/\h'.qv=h.qv) (e4:s'.set=s.set):RMem F w' sb h' s':=by
 obtain ⟨a1,a2,a3,a4,a5,a6⟩:=e3
 refine ⟨?_,?_,?_,o,m.nsb,by rw [a1]; exact m.nT,fun b hb=>Nat.lt_of_lt_of_le (m.lt b hb) hz⟩
 ·have:=m.blk
  unfold Blk at this ⊢
  rw [e1,hs sb m.blk.lt h1]
  exact this
 ·rw [a1,a2,e2]
  refine ownsRow_same m.rows fun g' hg'=>?_
  cases hg'
  exact hs _ m.gT_lt h2
 ·rw [a3,a4,a5,a6,e4]
  exact m.set.same fun b hb=>hs b (m.lt b hb) (fun e=>h3 (e ▸ hb))
theorem RMem.ownType (m:RMem F w sb h s) {g:Nat} {cur:Array Value} {e:TypeId} (hg:w.heap[g]?=some (Obj.cells cur e (0,0))) (h1:e ≠ 82) (h2:e ≠ 114):sb ≠ g/\h.gT ≠ g:=by
 refine ⟨fun e'=>?_,fun e'=>?_⟩
 ·rw [<- e'] at hg
  exact h1 (blk_type m.blk hg).symm
 ·obtain ⟨_,_,cur',hc'⟩:=ownsRow_block m.rows rfl
  rw [e',hg] at hc'
  cases hc'
  exact h2 rfl
theorem RMem.setOwner (m:RMem F w sb h s) (a:RApart F h) {g cap:Nat} (hv:h.vO=.slice (some ⟨g,0,none⟩) s.owner.length cap) (i:Nat) (x:Int) :
  RMem F (w.setCell ⟨g,i,none⟩ (.int .i64 x)) sb h { s with owner:=s.owner.set i x }:=by
 have hb:h.vO.ownBlock=some g:=by rw [hv]; rfl
 obtain ⟨_,hlt,cur,hc⟩:=ownsRow_block m.oth.own hb
 obtain ⟨h1,h2⟩:=m.ownType hc (by decide) (by decide)
 have same:∀ k,k ≠ g->(w.setCell ⟨g,i,none⟩ (.int .i64 x)).heap[k]?=w.heap[k]?:=fun k hk=>Below.heap_setCell _ _ _ _ hk
 refine m.turned (g:=g) (fun k _ hk=>same k hk) (by simp [World.setCell]) h1 h2 (a.o g hb) ⟨?_,?_,?_,?_,fun j hj=>?_⟩ rfl rfl ⟨rfl,rfl,rfl,rfl,rfl,rfl⟩ rfl
 ·have h0:=m.oth.own
  rw [hv] at h0 ⊢
  have:=(h0.stored i (.int .i64 x)).1
  simpa [intCells_set] using this
 ·exact ownsRow_same m.oth.cnt fun k hk=>same k (fun e=>(a.c k hk).2 (e ▸ hb))
 ·refine ownsRow_same m.oth.mis fun k hk=>same k (fun e=>?_)
  obtain ⟨_,_,cur',hc'⟩:=ownsRow_block m.oth.mis hk
  rw [e,hc] at hc'
  cases hc'
 ·refine ownsRow_same m.oth.box.1 fun k hk=>same k (fun e=>?_)
  obtain ⟨_,_,cur',hc'⟩:=ownsRow_block m.oth.box.1 hk
  rw [e,hc] at hc'
  cases hc'
 ·obtain ⟨v,hv',hr⟩:=m.oth.box.2 j hj
  exact ⟨v,hv',ownsRow_same hr fun k hk=>same k (fun e=>(a.bs j v k hv' hk).2.1 (e ▸ hb))⟩
theorem RMem.setCount (m:RMem F w sb h s) (a:RApart F h) {g cap:Nat} (hv:h.vC=.slice (some ⟨g,0,none⟩) s.count.length cap) (i:Nat) (x:Int) :
  RMem F (w.setCell ⟨g,i,none⟩ (.int .i64 x)) sb h { s with count:=s.count.set i x }:=by
 have hb:h.vC.ownBlock=some g:=by rw [hv]; rfl
 obtain ⟨_,hlt,cur,hc⟩:=ownsRow_block m.oth.cnt hb
 obtain ⟨h1,h2⟩:=m.ownType hc (by decide) (by decide)
 have same:∀ k,k ≠ g->(w.setCell ⟨g,i,none⟩ (.int .i64 x)).heap[k]?=w.heap[k]?:=fun k hk=>Below.heap_setCell _ _ _ _ hk
 refine m.turned (g:=g) (fun k _ hk=>same k hk) (by simp [World.setCell]) h1 h2 (a.c g hb).1 ⟨?_,?_,?_,?_,fun j hj=>?_⟩ rfl rfl ⟨rfl,rfl,rfl,rfl,rfl,rfl⟩ rfl
 ·exact ownsRow_same m.oth.own fun k hk=>same k (fun e=>(a.c g hb).2 (e ▸ hk))
 ·have h0:=m.oth.cnt
  rw [hv] at h0 ⊢
  have:=(h0.stored i (.int .i64 x)).1
  simpa [intCells_set] using this
 ·refine ownsRow_same m.oth.mis fun k hk=>same k (fun e=>?_)
  obtain ⟨_,_,cur',hc'⟩:=ownsRow_block m.oth.mis hk
  rw [e,hc] at hc'
  cases hc'
 ·refine ownsRow_same m.oth.box.1 fun k hk=>same k (fun e=>?_)
  obtain ⟨_,_,cur',hc'⟩:=ownsRow_block m.oth.box.1 hk
  rw [e,hc] at hc'
  cases hc'
 ·obtain ⟨v,hv',hr⟩:=m.oth.box.2 j hj
  exact ⟨v,hv',ownsRow_same hr fun k hk=>same k (fun e=>(a.bs j v k hv' hk).2.2.1 (e ▸ hb))⟩
end
end Go.Proofs.YtbkfildnijjioaaGreat

namespace Go.Proofs.YtbkfildnijjioaaGreat
open Go.RowKit
section
variable {F:Nat->Prop} {w w':World} {sb:Nat} {h:RH} {s:RS}
theorem RMem.tcell (m:RMem F w sb h s) {i:Nat} (hi:i < s.T.length) (j:Nat) (hj:j < 13):w.cell? ⟨h.gT,i * 13 + j,none⟩=(rtCells s.T[i])[j]?:=by
 rw [m.rows.cellAt _ (by omega),rtAll_get s.T i j hi hj]
theorem RMem.tfrozen (m:RMem F w sb h s) (j:Nat):w.frozen? ⟨h.gT,j,none⟩=false:=m.rows.frozenAt j
end
set_option maxHeartbeats 400000 in
theorem rDraw_any (F:Nat->Prop) (w:World) (sb:Nat) (h:RH) (s:RS) (m:RMem F w sb h s) (h0:0<=s.next) (h1:s.next<=4611686018427387904) :
  Calls Tryz.prog 115 #[.pointer (some ⟨sb,0,none⟩)] w fun e w'=>e=.returned (.int .i64 (s.next + 1))/\w'=w.setCell ⟨sb,7,none⟩ (.int .i64 (s.next + 1)):=by
 have c7:=m.blk.cell 7
 have f7:=m.blk.frozen 7
 simp [rsCells] at c7
 clear m
 go_enter Tryz.func115,Tryz.ntmps115
 go_wp2
 go_ret
 exact ⟨rfl,rfl⟩
set_option maxHeartbeats 400000 in
theorem rWake_any (F:Nat->Prop) (w:World) (sb:Nat) (h:RH) (s:RS) (m:RMem F w sb h s) (t:Nat) (ht:t < s.T.length) (_hfew:s.T.length<=16) (h0:0<=s.next) (h1:s.next<=4611686018427387904) :
  Calls Tryz.prog 110 #[.pointer (some ⟨sb,0,none⟩),.int .i64 t] w fun e w'=>e=.returned (.tuple #[])/\RMem F w' sb h (R.wake s t)/\Only [sb,h.gT] w w':=by
 have c8:=m.blk.cell 8
 simp [rsCells] at c8
 have a6:=m.tcell ht 6 (by decide)
 simp [rtCells] at a6
 have f6:=m.tfrozen (t * 13 + 6)
 have M:=hid m
 clear m
 go_enter Tryz.func110,Tryz.ntmps110
 go_wp2_with fail
 have hm1:=M.out.setT ht (j:=6) (by decide) (.bool true) (fun x=>{ x with awake:=true }) rfl
 have ho1:Only [sb,h.gT] w (w.setCell ⟨h.gT,t * 13 + 6,none⟩ (.bool true)):=(Only.refl _ _).setCell (.inl (by simp)) _
 clear a6 f6 c8
 generalize w.setCell ⟨h.gT,t * 13 + 6,none⟩ (.bool true)=w1 at hm1 ho1 ⊢
 refine (rDraw_any F w1 sb h _ hm1 h0 h1).mono ?_
 rintro e w2 ⟨rfl,rfl⟩
 have hm2:=hm1.setNext (s.next + 1)
 have ho2:Only [sb,h.gT] w (w1.setCell ⟨sb,7,none⟩ (.int .i64 (s.next + 1))):=ho1.setCell (.inl (by simp)) _
 generalize w1.setCell ⟨sb,7,none⟩ (.int .i64 (s.next + 1))=w2 at hm2 ho2 ⊢
 have M2:=hid hm2
 have c8:=hm2.blk.cell 8
 simp [rsCells] at c8
 have a7:=hm2.tcell (i:=t) (by simpa using ht) 7 (by decide)
 simp [rtCells] at a7
 have f7:=hm2.tfrozen (t * 13 + 7)
 clear hm1 hm2
 go_wp2
 go_end0
 have hm3:=M2.out.setT (i:=t) (j:=7) (by simpa using ht) (by decide) (.int .i64 (s.next + 1)) (fun x=>{ x with tick:=s.next + 1 }) rfl
 refine ⟨rfl,?_,ho2.setCell (.inl (by simp)) _⟩
 have e:R.wake s t={ s with next:=s.next + 1,T:=(s.T.modify t (fun x=>{ x with awake:=true })).modify t (fun x=>{ x with tick:=s.next + 1 }) }:=by
  unfold R.wake
  rw [List.modify_modify_eq]
  rfl
 rw [e]
 exact hm3
set_option maxHeartbeats 400000 in
theorem rNumber_any (F:Nat->Prop) (w:World) (sb:Nat) (h:RH) (s:RS) (m:RMem F w sb h s) (t:Nat) (ht:t < s.set.threads.length) (behind:Int) (hb0:0<=behind) (hb1:behind<=1000)
  (g0:0<=s.set.start) (g1:s.set.start<=s.now) (g2:s.now<=1000000000) (hx:0<=s.set.threads[t].offset/\s.set.threads[t].offset<=1000/\0<=s.set.threads[t].period/\s.set.threads[t].period<=1000) :
  Calls Tryz.prog 109 #[.pointer (some ⟨sb,0,none⟩),.int .i64 t,.int .i64 behind] w fun e w'=>e=.returned (.int .i64 (R.numberAt s t behind))/\Below w.heap.size w w':=by
 obtain ⟨o0,o1,p0,p1⟩:=hx
 have e:R.numberAt s t behind=R.number s.set.threads[t].period (s.now - s.set.start - s.set.threads[t].offset - behind):=by
  unfold R.numberAt
  simp [List.getD,ht]
 rw [e]
 clear e
 have c1:=m.blk.cell 1
 have c2:=m.blk.cell 2
 have c6:=m.blk.cell 6
 simp [rsCells] at c1 c2 c6
 obtain ⟨b,o,cv,cc,ha,hfb,x0,x1,x2,x3,x4,_⟩:=m.set.threads t ht
 rw [ha] at c2
 have hsl:=m.blk.lt
 clear ha m
 generalize hgone:s.now - s.set.start - s.set.threads[t].offset - behind=gone
 have HG:=hid hgone
 have gb:-1000001000<=gone/\gone<=1000000000:=by omega
 obtain ⟨gb0,gb1⟩:=gb
 clear hgone
 generalize s.set.threads[t].period=per at *
 generalize s.set.threads[t].offset=off at *
 go_enter Tryz.func109,Tryz.ntmps109
 go_wp2
 go_quiet (fail)
 rw [HG.out]
 clear x0 x1 x2 x3 x4 c1 c2 c6
 by_cases hper:per=0
 ·subst hper
  go_wp2
  all_goals
   go_ret
   refine ⟨ret_int ?_,bdrewN ((Below.refl _ _).alloc (Nat.le_refl _) _) _⟩
   try simp only [beq_iff_eq,beq_eq_false_iff_ne] at *
   unfold R.number
   simp_all
   try omega
 ·have hp2:1<=per:=by omega
  clear hper
  go_wp2
  all_goals
   go_ret
   refine ⟨ret_int ?_,bdrewN ((Below.refl _ _).alloc (Nat.le_refl _) _) _⟩
   have hne:¬ per=0:=by omega
   try simp only [bne_iff_ne,bne_eq_false_iff_eq] at *
   unfold R.number
   simp_all
   try omega
end Go.Proofs.YtbkfildnijjioaaGreat
