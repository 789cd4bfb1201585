import Derived.Test.YtaoaifmkhbgaiaaGreatPk16
import Derived.Test.YtaoaifmkhbgaiaaGreatPk18
import Derived.Test.YtaoaifmkhbgaiaaGreatPk22
namespace Go.Proofs.YtaoaifmkhbgaiaaGreat
open Go.RowKit
set_option linter.unusedVariables false
attribute [local go_sem ↓] Go.wp_at_zero Go.wp_at_succ
theorem kg {w w':World} {r:Option Nat} (h:Below w.heap.size w w'):w.grownBy w' r:=⟨h.os,h.tape,h.output,h.size,fun i hi _=>h.block i hi⟩
structure YS (w:World) (p:Nat) (f:Nat→Int) (k:Nat) (wr:World) (b:Nat) (mode:Int) (sum mxr:Bool) (satp:Int):Prop where
 d:DrewN w p f k wr
 h5:wr.heap[b]?=some (.cells #[.int .i64 mode,.bool sum,.bool mxr,.int .u64 satp] 25 (0,0))
 l5:w.heap.size≤b
 bd:0≤satp∧satp≤18446744073709551615
theorem YS.draw {w wr v:World} {p:Nat} {f:Nat→Int} {k k' b:Nat} {mode:Int} {sum mxr:Bool} {satp:Int} (s:YS w p f k wr b mode sum mxr satp) (hp:p<w.heap.size) (d:DrewN wr p f k' v):YS w p f k' v b mode sum mxr satp:=
 ⟨s.d.trans d,av s.h5 d.2 (by have:=s.l5;omega),s.l5,s.bd⟩
theorem YS.put {w wr:World} {p:Nat} {f:Nat→Int} {k b:Nat} {mode mode':Int} {sum mxr sum' mxr':Bool} {satp satp':Int} (s:YS w p f k wr b mode sum mxr satp) (hp:p<w.heap.size) (i:Nat) (x:Value) (he:(#[.int .i64 mode,.bool sum,.bool mxr,.int .u64 satp]:Array Value).setIfInBounds i x=#[.int .i64 mode',.bool sum',.bool mxr',.int .u64 satp']) (hb:0≤satp'∧satp'≤18446744073709551615):YS w p f k (wr.setCell ⟨b,i,none⟩ x) b mode' sum' mxr' satp':=
 ⟨s.d.own (ax (aE _ _) i x) s.l5 hp,by rw [←he];exact da s.h5 i x,s.l5,hb⟩
theorem YS.low {w wr:World} {p:Nat} {f:Nat→Int} {k b:Nat} {mode:Int} {sum mxr:Bool} {satp:Int} (s:YS w p f k wr b mode sum mxr satp):b<wr.heap.size∧wr.cell? ⟨b,0,none⟩=some (.int .i64 mode)∧wr.cell? ⟨b,1,none⟩=some (.bool sum)∧wr.cell? ⟨b,2,none⟩=some (.bool mxr)∧wr.cell? ⟨b,3,none⟩=some (.int .u64 satp)∧∀i,wr.frozen? ⟨b,i,none⟩=false:=
 ⟨(Array.getElem?_eq_some_iff.1 s.h5).1,ag s.h5 0 rfl,ag s.h5 1 rfl,ag s.h5 2 rfl,ag s.h5 3 rfl,fun i=>aA s.h5 i⟩
abbrev zkA:Array Value:=#[.int .i64 0,.int .i64 0,.slice none 0 0,.int .i64 0,.int .i64 0,.slice none 0 0,.int .i64 0,.int .i64 0,.slice none 0 0]
abbrev ztA:Array Value:=#[.int .i64 0,.int .u64 0,.int .i64 0,.int .i64 0,.slice none 0 0,.int .i64 0,.int .i64 0,.slice none 0 0,.int .i64 0,.int .i64 0,.slice none 0 0]
theorem cK:(Tryz.prog.info? 30).map (·.size)=some 9:=by kernel_rfl
theorem kj:(Tryz.prog.info? 34).map (·.size)=some 11:=by kernel_rfl
theorem ic (q:PtrM) (k:KM):(kA q k).all (·.oneCell')=true:=by simp [kA,Value.oneCell']
theorem gv (q:PtrM) (r:(Int × Int) × KM):(cI q r).all (·.oneCell')=true:=by simp [cI,Value.oneCell']
theorem Byt.ok5 {w:World} {a:Option Addr} {len:Nat} {zs:List Int} (h:Byt w a len zs):gn zs:=h.2.1
theorem tV (zs:List Int) (mode:Int) (sum mxr:Bool) (satp:Int) (k:KM) (kind va pick:Int) (hk:aV k=true) (hn:(ak zs mode sum mxr satp k kind va pick).1.1≠63):aV (ak zs mode sum mxr satp k kind va pick).2=true:=by
 by_cases hb:kind<0∨2<kind∨mode<0∨2<mode∨pick<0∨255<pick
 ·exact absurd (by unfold ak;rw [if_pos (.inr hb)]) hn
 ·exact nH zs mode sum mxr satp k kind va pick hk (by omega) (by omega) (by omega)
structure WarmS (w:World) (p:Nat) (f:Nat→Int) (k:Nat) (wr:World) (b6 b7 b8:Nat) (m:Int) (s x:Bool) (t:Int) (a:Option Addr) (len cap:Nat) (zs:List Int) (q0:PtrM) (km0:KM) (q:PtrM) (km:KM):Prop where
 d:DrewN w p f k wr
 h6:wr.heap[b6]?=some (.cells #[.int .i64 m,.bool s,.bool x,.int .u64 t] 25 (0,0))
 h7:wr.heap[b7]?=some (.cells (kA q km) 30 (0,0))
 h8:wr.heap[b8]?=some (.cells zkA 30 (0,0))
 kp:KN wr p q km
 k7:KN wr b7 q km
 k8:KN wr b8 q km
 good:aV km=true
 bp:BytN wr p a len cap zs
 b7n:BytN wr b7 a len cap zs
 kr:∀r,r<w.heap.size→KN w r q0 km0→KN wr r q km
theorem WarmS.same {w wr v:World} {p:Nat} {f:Nat→Int} {k k' b6 b7 b8:Nat} {m:Int} {s x:Bool} {t:Int} {a:Option Addr} {len cap:Nat} {zs:List Int} {q0:PtrM} {km0:KM} {q:PtrM} {km:KM} (S:WarmS w p f k wr b6 b7 b8 m s x t a len cap zs q0 km0 q km) (d:DrewN wr p f k' v) (l6:w.heap.size≤b6) (l7:w.heap.size≤b7) (l8:w.heap.size≤b8) (hp:p<w.heap.size):WarmS w p f k' v b6 b7 b8 m s x t a len cap zs q0 km0 q km:=
 have kp:=S.kp.gb d.2;have bp:=S.bp.gb d.2
 ⟨S.d.trans d,av S.h6 d.2 (by omega),av S.h7 d.2 (by omega),av S.h8 d.2 (by omega),kp,⟨kp.k,S.k7.n1.mono d.2.size,S.k7.n2.mono d.2.size,S.k7.n3.mono d.2.size⟩,⟨kp.k,S.k8.n1.mono d.2.size,S.k8.n2.mono d.2.size,S.k8.n3.mono d.2.size⟩,S.good,bp,⟨bp.b,S.b7n.n.mono d.2.size,bp.l,bp.c⟩,fun r hr h=>⟨kp.k,(S.kr r hr h).n1.mono d.2.size,(S.kr r hr h).n2.mono d.2.size,(S.kr r hr h).n3.mono d.2.size⟩⟩
theorem WarmS.take {w wr v v':World} {p:Nat} {f:Nat→Int} {k k' b6 b7 b8:Nat} {m:Int} {s x:Bool} {t:Int} {a:Option Addr} {len cap:Nat} {zs:List Int} {q0:PtrM} {km0:KM} {q q':PtrM} {km km':KM} (S:WarmS w p f k wr b6 b7 b8 m s x t a len cap zs q0 km0 q km) (d:DrewN wr p f k' v) (kp:KN v p q' km') (k7:KN v b7 q' km') (k8:KN v b8 q' km') (kr:∀r,r<w.heap.size→KN v r q' km') (hg:aV km'=true) (h7:v'.heap[b7]?=some (.cells (kA q' km') 30 (0,0))) (hb:v.grownBy v' (some b7)) (l6:w.heap.size≤b6) (l7:w.heap.size≤b7) (l8:w.heap.size≤b8) (n6:b6≠b7) (n8:b8≠b7) (hp:p<w.heap.size):WarmS w p f k' v' b6 b7 b8 m s x t a len cap zs q0 km0 q' km':=
 have S1:=S.same d l6 l7 l8 hp;have k7':=k7.gb hb;have b7':=S1.b7n.gb hb
 ⟨S1.d.own hb l7 hp,av S1.h6 hb n6,h7,av S1.h8 hb n8,⟨k7'.k,kp.n1.mono hb.size,kp.n2.mono hb.size,kp.n3.mono hb.size⟩,k7',⟨k7'.k,k8.n1.mono hb.size,k8.n2.mono hb.size,k8.n3.mono hb.size⟩,hg,⟨b7'.b,S1.bp.n.mono hb.size,b7'.l,b7'.c⟩,b7',fun r hr _=>⟨k7'.k,(kr r hr).n1.mono hb.size,(kr r hr).n2.mono hb.size,(kr r hr).n3.mono hb.size⟩⟩
set_option maxRecDepth 20000 in
set_option maxHeartbeats 6400000 in
theorem uD (p:Nat) (f:Nat→Int) (k:Nat) (a:Option Addr) (len cap:Nat) (zs:List Int) (m:Int) (s x:Bool) (t:Int) (q0:PtrM) (km0:KM) (w:World) (hc:CurN w p f k) (hb:BytN w p a len cap zs) (ht:0≤t∧t≤18446744073709551615) (hk:KN w p q0 km0) (hg:aV km0=true):
 Calls Tryz.prog 32 #[.pointer (some ⟨p,0,none⟩),.slice a len cap,dx m s x t,.agg (kA q0 km0)] w fun e w'=>∃q' km' k',e=.returned (.agg (kA q' km'))∧KN w' p q' km'∧aV km'=true∧(∀r,r<w.heap.size→KN w r q0 km0→KN w' r q' km')∧DrewN w p f k' w':=by
 have hp:=hc.lt;have HCA:Hid (∀(u:World) (q:PtrM) (km:KM) (m:Int) (s x:Bool) (t kind va pick:Int),KAt u (.agg (kA q km)) km→Byt u a len zs→(0≤va∧va≤18446744073709551615)→(0≤t∧t≤18446744073709551615)→Calls Tryz.prog 8 #[.slice a len cap,dx m s x t,.agg (kA q km),.int .i64 kind,.int .u64 va,.int .i64 pick] u fun e w'=>(∃x',e=.returned x'∧TransOwn u.heap.size w' x' (ak zs m s x t km kind va pick))∧Below u.heap.size u w'):=
  fun u q km m s x t kind va pick h1 h2 h3 h4=>gc a len cap zs m s x t _ km kind va pick u h1 h2 hb.l hb.c.1 hb.c.2 h3.1 h3.2 h4.1 h4.2
 have HOK:Hid (∀(km:KM) (m:Int) (s x:Bool) (t kind va pick:Int),kOk km→(0≤va∧va≤18446744073709551615)→kOk (ak zs m s x t km kind va pick).2):=fun km m s x t kind va pick h1 h2=>(lG zs m s x t km kind va pick hb.b.ok5 h1 h2).1;have HGD:Hid (∀(km:KM) (m:Int) (s x:Bool) (t kind va pick:Int),aV km=true→(ak zs m s x t km kind va pick).1.1≠63→aV (ak zs m s x t km kind va pick).2=true):=fun km m s x t kind va pick h1 h2=>tV zs m s x t km kind va pick h1 h2;unfold dx at HCA ⊢;go_enter Tryz.func32,Tryz.ntmps32;go_upto_region 1 with fail;have F:=xz w #[.int .i64 m,.bool s,.bool x,.int .u64 t] (kA q0 km0) zkA 25 30 30;generalize ((w.alloc (Obj.cells #[.int .i64 m,.bool s,.bool x,.int .u64 t] 25)).alloc (Obj.cells (kA q0 km0) 30)).alloc (Obj.cells zkA 30)=v1 at F ⊢;obtain ⟨h6,h7,h8,l1,n1⟩:=F;have S:WarmS w p f k v1 w.heap.size (w.heap.size+1) (w.heap.size+1+1) m s x t a len cap zs q0 km0 q0 km0:=⟨(DrewN.refl hc).below n1 hp,h6,h7,h8,hk.keep n1,(hk.new (Nat.le_succ _)).keep n1,(hk.new (by omega)).keep n1,hg,hb.keep n1,(hb.new (Nat.le_succ _)).keep n1,fun r hr h=>h.keep n1⟩;have l6:w.heap.size≤w.heap.size:=Nat.le_refl _;have l7:w.heap.size≤w.heap.size+1:=by omega
 have l8:w.heap.size≤w.heap.size+1+1:=by omega
 have n67:w.heap.size≠w.heap.size+1:=by omega
 have n87:w.heap.size+1+1≠w.heap.size+1:=by omega
 have hp0:=hp;clear h6 h7 h8 hk hb hg hc l1;generalize hb8:w.heap.size+1+1=b8 at *;generalize hb7:w.heap.size+1=b7 at *;generalize hb6:w.heap.size=b6 at S l6 l7 l8 n67 n87 n1 ⊢;go_wp2_with fail;refine (aX p f k 8 _ S.d.1 (by omega) (by omega)).mono ?_;rintro e v2 ⟨y,k2, -,hy,rfl,dd⟩;replace S:=S.same dd (by omega) (by omega) (by omega) hp0;obtain ⟨nn,hnn⟩:∃nn:Nat,(2+y:Int)=nn:=⟨(2+y).toNat,by omega⟩;have bnn:nn≤9:=by omega
 clear dd n1;go_wp2_with fail;clear hnn;go_loopw [10] (fun ii wr=>∃(i:Nat) (q:PtrM) (km:KM) (k:Nat),i≤nn∧ii=.int .i64 i∧WarmS w p f k wr b6 b7 b8 m s x t a len cap zs q0 km0 q km) (fun ii _=>nn-(intOf ii).toNat)
 case atStart=>exact ⟨0,q0,km0,_,Nat.zero_le _,rfl,S⟩
 case round=>
 clear S;obtain ⟨i,q,km,kk,hi,rfl,S0⟩:=hrel;by_cases hlt:i<nn
 ·as_aux_lemma=>
   have hlt':decide ((i:Int)<(nn:Int))=true:=by simp;omega
   have J6:Hid _:=aB (P:=Tryz.prog) (T:=25) S0.h6 Tryz.underlying25 rfl fh;obtain ⟨v3,hs3,P3,l3,n3⟩:=dI wr #[.int .i64 0,.bool false,.bool false,.int .u64 0] #[.int .i64 m,.bool s,.bool x,.int .u64 t] 25 fh rfl (jo _ _ _ _);have HS3:Hid _:=hs3;have hpw:p<wr.heap.size:=S0.d.1.lt;have S:YS wr p f kk v3 wr.heap.size m s x t:=⟨(DrewN.refl S0.d.1).below n3 hpw,P3,Nat.le_refl _,ht⟩;have HS0:Hid _:=S0;clear S0 hs3 P3 n3;go_upto_region 6 with (first | ((with_reducible refine az ?_ J6.out ?_);(exact rfl)) | ((with_reducible refine au ?_ ?_ HS3.out ?_);(exact rfl);(exact rfl)));clear J6 HS3;generalize hb11:wr.heap.size=b11 at S l3 ⊢;obtain ⟨g5,c0, -, -, -,f5⟩:=S.low;have f0:=f5 0;clear f5;simp only [Act.put];go_cut [34] from 27 to 33 (fun s34 wx=>∃b,s34=.bool b∧YS wr p f kk wx b11 m s x t)
   case first=>
    by_cases h1:1<m
    ·have e1:decide (m>1)=true:=by simpa using h1
     have e1':decide (1<m)=true:=by simpa using h1
     go_wp2_with fail;go_meet
     case rel=>exact ⟨_,rfl,S⟩
    ·have e1:decide (m>1)=false:=by simp;omega
     have e1':decide (1<m)=false:=by simp;omega
     go_wp2_with fail;go_meet
     case rel=>exact ⟨_,rfl,S⟩
   case rest=>
   clear S c0 f0 g5;obtain ⟨bm,rfl,S⟩:=hcut;go_upto_if 34 with fail;go_cut [] from 35 to 35 (fun wx=>∃m',YS wr p f kk wx b11 m' s x t)
   case first=>
    obtain ⟨g5,c0, -, -, -,f5⟩:=S.low;have f0:=f5 0;clear f5;cases bm
    ·go_wp2_with fail;go_meet
     case rel=>exact ⟨_,S⟩
    ·have S2:=S.put hpw 0 (.int .i64 1) rfl S.bd;go_wp2_with fail;go_meet
     case rel=>exact ⟨_,S2⟩
   case rest=>
   obtain ⟨m1,S'⟩:=hcut;clear S;have S:=S';clear S';go_wp2_with fail;refine (dp p f kk 4 _ S.d.1 (by omega) (by omega)).mono ?_;rintro e v1 ⟨o,k1, -,rfl,dd⟩;replace S:=S.draw hpw dd;clear dd;go_upto_if 37 with fail;go_cut [12,13] from 38 to 47 (fun s12 s13 wx=>∃t' k',YS wr p f k' wx b11 m1 s x t')
   case first=>
    cases o
    ·go_wp2_with fail;go_meet
     case rel=>exact ⟨_,_,S⟩
    ·go_wp2_with fail;refine (aX p f k1 2 _ S.d.1 (by omega) (by omega)).mono ?_;rintro e v2 ⟨y1,k2, -,hy1,rfl,dd⟩;replace S:=S.draw hpw dd;clear dd;go_wp2_with fail;refine (aX p f k2 2 _ S.d.1 (by omega) (by omega)).mono ?_;rintro e v3 ⟨y2,k3, -,hy2,rfl,dd⟩;replace S:=S.draw hpw dd;clear dd;have bz:0≤iu (1+y1) (1+y2)∧iu (1+y1) (1+y2)≤18446744073709551615:=by rw [iu];omega
     have CS:Hid (∀u,Calls Tryz.prog 31 #[.int .i64 (1+y1),.int .i64 (1+y2)] u fun e w'=>e=.returned (.int .u64 (iu (1+y1) (1+y2)))∧w'=u):=fun u=>mn (1+y1) (1+y2) u (by omega) (by omega) (by omega) (by omega);generalize iu (1+y1) (1+y2)=sz at *;go_wp2_with fail;refine (CS.out _).mono ?_;rintro e _ ⟨rfl,rfl⟩;obtain ⟨g5,c0,c1,c2,c3,f5⟩:=S.low;have f0:=f5 0;have f1:=f5 1;have f3:=f5 3;clear f5;have S2:=S.put hpw 3 (.int .u64 sz) rfl bz;go_wp2_with fail;go_meet
     case rel=>exact ⟨_,_,S2⟩
   case rest=>
   obtain ⟨t1,k1,S'⟩:=hcut;clear S;have S:=S';clear S';go_wp2_with fail;refine (dp p f k1 4 _ S.d.1 (by omega) (by omega)).mono ?_;rintro e v4 ⟨o2,k4, -,rfl,dd⟩;replace S:=S.draw hpw dd;clear dd;go_upto_if 49 with fail;go_cut [] from 50 to 50 (fun wx=>∃s',YS wr p f k4 wx b11 m1 s' x t1)
   case first=>
    cases o2
    ·go_wp2_with fail;go_meet
     case rel=>exact ⟨_,S⟩
    ·obtain ⟨g5,c0,c1,c2,c3,f5⟩:=S.low;have f1:=f5 1;clear f5;have S2:=S.put hpw 1 (.bool true) rfl S.bd;go_wp2_with fail;go_meet
     case rel=>exact ⟨_,S2⟩
   case rest=>
   obtain ⟨s1,S'⟩:=hcut;clear S;have S:=S';clear S';go_wp2_with fail;refine (aX p f k4 3 _ S.d.1 (by omega) (by omega)).mono ?_;rintro e v5 ⟨kd,k5, -,hkd,rfl,dd⟩;replace S:=S.draw hpw dd;clear dd;go_wp2_with fail;refine (aX p f k5 8 _ S.d.1 (by omega) (by omega)).mono ?_;rintro e v6 ⟨ya,k6, -,hya,rfl,dd⟩;replace S:=S.draw hpw dd;clear dd;obtain ⟨va0,hva0⟩:∃z:Int,64*ya+8=z:=⟨_,rfl⟩;have bva0:0≤va0∧va0≤600:=by omega
   go_wp2_with fail;refine (aX p f k6 5 _ S.d.1 (by omega) (by omega)).mono ?_;rintro e v7 ⟨jj,k7, -,hjj,rfl,dd⟩;replace S:=S.draw hpw dd;clear dd;go_upto_if 61 with fail;go_cut [15] from 62 to 63 (fun s15 wx=>∃va1,s15=.int .u64 va1∧(0≤va1∧va1≤1112)∧YS wr p f k7 wx b11 m1 s1 x t1)
   case first=>
    by_cases hj:¬(jj=0)
    ·have q0:(jj == 0)=false:=by simpa using hj
     go_wp2_with fail;go_meet
     case rel=>exact ⟨_,rfl,by omega,S⟩
    ·obtain rfl:jj=0:=by omega
     go_wp2_with fail;go_meet
     case rel=>exact ⟨_,rfl,by omega,S⟩
   case rest=>
   clear S;obtain ⟨va,rfl,bva,S⟩:=hcut;go_upto_if 65 with fail;go_cut [15] from 66 to 68 (fun s15 wx=>∃va1,s15=.int .u64 va1∧(0≤va1∧va1≤5528)∧YS wr p f k7 wx b11 m1 s1 x t1)
   case first=>
    by_cases hj:¬(jj=1)
    ·have q0:(jj == 1)=false:=by simpa using hj
     go_wp2_with fail;go_meet
     case rel=>exact ⟨_,rfl,by omega,S⟩
    ·obtain rfl:jj=1:=by omega
     go_wp2_with fail;go_meet
     case rel=>exact ⟨_,rfl,by omega,S⟩
   case rest=>
   clear S;obtain ⟨va,rfl,bva,S⟩:=hcut;go_upto_if 70 with fail;go_cut [15] from 71 to 72 (fun s15 wx=>∃va1,s15=.int .u64 va1∧(0≤va1∧va1≤6552)∧YS wr p f k7 wx b11 m1 s1 x t1)
   case first=>
    by_cases hj:¬(jj=2)
    ·have q0:(jj == 2)=false:=by simpa using hj
     go_wp2_with fail;go_meet
     case rel=>exact ⟨_,rfl,by omega,S⟩
    ·obtain rfl:jj=2:=by omega
     go_wp2_with fail;go_meet
     case rel=>exact ⟨_,rfl,by omega,S⟩
   case rest=>
   clear S;obtain ⟨va,rfl,bva,S⟩:=hcut;go_upto_region 23 with fail;go_cut [17] from 73 to 80 (fun s17 wx=>∃(bt:Nat) (q':PtrM) (X:(Int × Int) × KM) (kf:Nat),s17=.pointer (some ⟨bt,0,none⟩)∧wr.heap.size≤bt∧wx.heap[bt]?=some (.cells (cI q' X) 34 (0,0))∧DrewN wr p f kf wx∧KN wx p q' X.2∧KN wx b7 q' X.2∧KN wx b8 q' X.2∧(∀r,r<w.heap.size→KN wx r q' X.2)∧(X.1.1≠63→aV X.2=true))
   case first=>
    as_aux_lemma=>
     have HK7:Hid _:=HS0.out.h7;have HF0:Hid (∀u:World,wr.grownBy u (some p)→u.heap[b7]?=some (.cells (kA q km) 30 (0,0))):=fun u hu=>av HK7.out hu (by omega);rename World=>wc;have lb11:b11<wc.heap.size:=S.low.1;have HDc:Hid _:=S.d;have HF1:Hid (∀u:World,wc.grownBy u (some p)→u.heap[b11]?=some (.cells #[.int .i64 m1,.bool s1,.bool x,.int .u64 t1] 25 (0,0))∧u.heap[b7]?=some (.cells (kA q km) 30 (0,0))∧wr.grownBy u (some p)):=fun u hu=>⟨av S.h5 hu (by omega),HF0.out u (cJ S.d.2 hu),cJ S.d.2 hu⟩;have HLc:Hid (∀u:World,u.heap[b11]?=some (.cells #[.int .i64 m1,.bool s1,.bool x,.int .u64 t1] 25 (0,0))→(Instr.loadAt 25 (.pointer (some ⟨b11,0,none⟩))).run Tryz.prog u=.ok (.agg #[.int .i64 m1,.bool s1,.bool x,.int .u64 t1]) u):=fun u hu=>aB (P:=Tryz.prog) (T:=25) hu Tryz.underlying25 rfl fh;have HLk:Hid (∀u:World,u.heap[b7]?=some (.cells (kA q km) 30 (0,0))→(Instr.loadAt 30 (.pointer (some ⟨b7,0,none⟩))).run Tryz.prog u=.ok (.agg (kA q km)) u):=fun u hu=>aB (P:=Tryz.prog) (T:=30) hu Tryz.underlying30 rfl cK;have HTr:Hid (∀(u:World) (pk:Int),wr.grownBy u (some p)→Calls Tryz.prog 8 #[.slice a len cap,.agg #[.int .i64 m1,.bool s1,.bool x,.int .u64 t1],.agg (kA q km),.int .i64 kd,.int .u64 va,.int .i64 pk] u fun e w'=>(∃x',e=.returned x'∧TransOwn u.heap.size w' x' (ak zs m1 s1 x t1 km kd va pk))∧Below u.heap.size u w'):=fun u pk hu=>HCA.out u q km m1 s1 x t1 kd va pk (HS0.out.kp.gb hu).k (HS0.out.bp.gb hu).b (by omega) S.bd;have HX1:Hid (∀pk,kOk (ak zs m1 s1 x t1 km kd va pk).2):=fun pk=>HOK.out km m1 s1 x t1 kd va pk HS0.out.kp.ok (by omega);have HX2:Hid (∀pk,(ak zs m1 s1 x t1 km kd va pk).1.1≠63→aV (ak zs m1 s1 x t1 km kd va pk).2=true):=fun pk=>HGD.out km m1 s1 x t1 kd va pk HS0.out.good;have HBl:Hid (∀u:World,CurN u p f k7→Calls Tryz.prog 30 #[.pointer (some ⟨p,0,none⟩),.int .i64 256] u fun e w'=>∃x k',eY f 256 k7=(x,k')∧(0≤x∧x<256)∧e=.returned (.int .i64 x)∧DrewN u p f k' w'):=fun u hu=>aX p f k7 256 u hu (by omega) (by omega);have hb7p:p≠b7:=by omega
     have lb7:b7<wr.heap.size:=(Array.getElem?_eq_some_iff.1 HK7.out).1;have hww:w.heap.size≤wr.heap.size:=HS0.out.d.2.size;have lb8:b8<wr.heap.size:=(Array.getElem?_eq_some_iff.1 HS0.out.h8).1;clear S HS0 HCA HOK HGD HF0 HK7;generalize kA q km=AK at *;generalize (fun pk=>ak zs m1 s1 x t1 km kd va pk)=TX at *;have gD:wc.grownBy wc.drew (some p):=kg (Below.refl _ _).drew;have hF:=HF1.out wc.drew gD;refine ba (fun u=>u.heap[b11]?=some (.cells #[.int .i64 m1,.bool s1,.bool x,.int .u64 t1] 25 (0,0))∧u.heap[b7]?=some (.cells AK 30 (0,0))∧wr.grownBy u (some p)) 9 (by kernel_rfl) ?_;refine ah 0 73 (.slice a len cap) rfl (by kernel_rfl) (by kernel_rfl) (by kernel_rfl) (by kernel_rfl) rfl (by kernel_rfl) (fun _ _ _ h=>h) (by kernel_rfl) (fun u hu=>by kernel_rfl) hF (by kernel_rfl) ?_;simp only [Act.put,List.setIfInBounds_toArray,List.set_cons_succ,List.set_cons_zero];refine ah 1 74 (.agg #[.int .i64 m1,.bool s1,.bool x,.int .u64 t1]) rfl (by kernel_rfl) (by kernel_rfl) (by kernel_rfl) (by kernel_rfl) rfl (by kernel_rfl) (fun _ _ _ h=>h) (by kernel_rfl) (fun u hu=>aM rfl (HLc.out u hu.1)) hF (by kernel_rfl) ?_;simp only [Act.put,List.setIfInBounds_toArray,List.set_cons_succ,List.set_cons_zero];refine ah 2 75 (.agg AK) rfl (by kernel_rfl) (by kernel_rfl) (by kernel_rfl) (by kernel_rfl) rfl (by kernel_rfl) (fun _ _ _ h=>h) (by kernel_rfl) (fun u hu=>aM rfl (HLk.out u hu.2.1)) hF (by kernel_rfl) ?_;simp only [Act.put,List.setIfInBounds_toArray,List.set_cons_succ,List.set_cons_zero];refine ah 3 76 (.int .i64 kd) rfl (by kernel_rfl) (by kernel_rfl) (by kernel_rfl) (by kernel_rfl) rfl (by kernel_rfl) (fun _ _ _ h=>h) (by kernel_rfl) (fun u hu=>by kernel_rfl) hF (by kernel_rfl) ?_;simp only [Act.put,List.setIfInBounds_toArray,List.set_cons_succ,List.set_cons_zero];refine ah 4 77 (.int .u64 va) rfl (by kernel_rfl) (by kernel_rfl) (by kernel_rfl) (by kernel_rfl) rfl (by kernel_rfl) (fun _ _ _ h=>h) (by kernel_rfl) (fun u hu=>by kernel_rfl) hF (by kernel_rfl) ?_;simp only [Act.put,List.setIfInBounds_toArray,List.set_cons_succ,List.set_cons_zero];refine ah 5 78 (.pointer (some ⟨p,0,none⟩)) rfl (by kernel_rfl) (by kernel_rfl) (by kernel_rfl) (by kernel_rfl) rfl (by kernel_rfl) (fun _ _ _ h=>h) (by kernel_rfl) (fun u hu=>by kernel_rfl) hF (by kernel_rfl) ?_;simp only [Act.put,List.setIfInBounds_toArray,List.set_cons_succ,List.set_cons_zero];have HDd:Hid (CurN wc.drew p f k7):=HDc.out.1.below (B:=wc.heap.size) (Below.refl _ _).drew (by omega);refine gX 6 8 (by kernel_rfl) ?_ ?_
     ·as_aux_lemma=>
       refine iL 6 79 (by kernel_rfl) rfl (by kernel_rfl) (f:=30) (args:=#[.pointer (some ⟨p,0,none⟩),.int .i64 256]) (by kernel_rfl) ?_;refine (HBl.out wc.drew HDd.out).mono ?_;rintro e v6 ⟨pk,kq, -,bpk,rfl,d6⟩;have g6:=cJ gD d6.2;have F6:=HF1.out v6 g6;refine ⟨_,rfl,fun _=>F6,?_⟩;simp only [Act.put,List.setIfInBounds_toArray,List.set_cons_succ,List.set_cons_zero];refine gX 7 8 (by kernel_rfl) ?_ ?_
       ·as_aux_lemma=>
         refine iL 7 80 (by kernel_rfl) rfl (by kernel_rfl) (f:=8) (args:=#[.slice a len cap,.agg #[.int .i64 m1,.bool s1,.bool x,.int .u64 t1],.agg AK,.int .i64 kd,.int .u64 va,.int .i64 pk]) (by kernel_rfl) ?_;refine (HTr.out v6 pk F6.2.2).mono ?_;rintro e vt ⟨⟨x',rfl,oT⟩,nT⟩;obtain ⟨a1,c1,a2,c2,a3,c3,rfl,kr⟩:=oT.open q;have gT:=cJ F6.2.2 (kg nT);refine ⟨_,rfl,fun _=>⟨ab F6.1 nT (Array.getElem?_eq_some_iff.1 F6.1).1,ab F6.2.1 nT (Array.getElem?_eq_some_iff.1 F6.2.1).1,gT⟩,?_⟩;simp only [Act.put,List.setIfInBounds_toArray,List.set_cons_succ,List.set_cons_zero];have a7:=di vt ztA 34;have g7:=cJ gT (kg a7.2.2);refine ei 8 17 (.pointer (some ⟨vt.heap.size,0,none⟩)) (w':=vt.alloc (.cells ztA 34)) (by kernel_rfl) rfl (by kernel_rfl) (by kernel_rfl) (by kernel_rfl) (fun _=>⟨ab (ab F6.1 nT (Array.getElem?_eq_some_iff.1 F6.1).1) a7.2.2 (Nat.lt_of_lt_of_le (Array.getElem?_eq_some_iff.1 F6.1).1 nT.size),ab (ab F6.2.1 nT (Array.getElem?_eq_some_iff.1 F6.2.1).1) a7.2.2 (Nat.lt_of_lt_of_le (Array.getElem?_eq_some_iff.1 F6.2.1).1 nT.size),g7⟩) ?_;simp only [Act.put,List.setIfInBounds_toArray,List.set_cons_succ,List.set_cons_zero];have kr1:=kr.keep a7.2.2;have s6:=F6.2.2.size;have sT:=nT.size;have cu:=(d6.1.below (B:=v6.heap.size) nT d6.1.lt).below (B:=vt.heap.size) a7.2.2 (Nat.lt_of_lt_of_le d6.1.lt nT.size);have HS9:Hid _:=bO (P:=Tryz.prog) (T:=34) (V:=cI (pK q a1 c1 a2 c2 a3 c3) (ak zs m1 s1 x t1 km kd va pk)) a7.1 kj rfl (gv _ _);have e9:=bs (V:=cI (pK q a1 c1 a2 c2 a3 c3) (ak zs m1 s1 x t1 km kd va pk)) a7.1 rfl;have gS:=aU vt.heap.size (cI (pK q a1 c1 a2 c2 a3 c3) (ak zs m1 s1 x t1 km kd va pk)).toList 0 (vt.alloc (.cells ztA 34)) _ (aE _ _);have kr2:=KRows.set kr1 a7.1 (by decide) gS;refine bB 9 rfl (T:=34) (x:=.tmp 17) (y:=.tmp 80) (by kernel_rfl) (by kernel_rfl) (by kernel_rfl) (by kernel_rfl) (b:=vt.heap.size) (off:=0) (by kernel_rfl) (by kernel_rfl) HS9.out (.inl (by kernel_rfl)) ?_;refine bQ (by kernel_rfl) ?_ _;have dW:DrewN wr p f kq (vt.alloc (.cells ztA 34)):=⟨cu,g7⟩;have dF:=dW.own gS (by omega) hpw;generalize ((vt.alloc (.cells ztA 34)).setCells vt.heap.size 0 (cI (pK q a1 c1 a2 c2 a3 c3) (ak zs m1 s1 x t1 km kd va pk)).toList)=vF at *;have K1:=KRows.kn kr2 (r:=p) (by omega) (HX1.out pk);have K2:=KRows.kn kr2 (r:=b7) (by omega) (HX1.out pk);have K3:=KRows.kn kr2 (r:=b8) (by omega) (HX1.out pk);have K4:∀r,r<w.heap.size→KN vF r (pK q a1 c1 a2 c2 a3 c3) (ak zs m1 s1 x t1 km kd va pk).2:=fun r hr=>KRows.kn kr2 (r:=r) (by omega) (HX1.out pk);have G2:=HX2.out pk;generalize ak zs m1 s1 x t1 km kd va pk=XX at *;go_wp2_with fail;go_meet
         case rel=>exact ⟨vt.heap.size,_,XX,kq,rfl,(by omega),e9,dF,K1,K2,K3,K4,G2⟩
       ·as_aux_lemma=>
         have a7:=di v6 ztA 34;have g7:=cJ F6.2.2 (kg a7.2.2);refine kz 8 17 (.pointer (some ⟨v6.heap.size,0,none⟩)) (w':=v6.alloc (.cells ztA 34)) (by kernel_rfl) rfl (by kernel_rfl) (by kernel_rfl) ?_;refine ⟨fun _=>⟨ab F6.1 a7.2.2 (Array.getElem?_eq_some_iff.1 F6.1).1,ab F6.2.1 a7.2.2 (Array.getElem?_eq_some_iff.1 F6.2.1).1,g7⟩,?_⟩;simp only [Act.put,List.setIfInBounds_toArray,List.set_cons_succ,List.set_cons_zero];have a71:(v6.alloc (.cells ztA 34)).heap.size=v6.heap.size+1:=a7.2.1;refine be 7 80 (by kernel_rfl) rfl (by kernel_rfl) (by kernel_rfl) (f:=8) (args:=#[.slice a len cap,.agg #[.int .i64 m1,.bool s1,.bool x,.int .u64 t1],.agg AK,.int .i64 kd,.int .u64 va,.int .i64 pk]) (by kernel_rfl) ?_;refine (HTr.out (v6.alloc (.cells ztA 34)) pk g7).mono ?_;rintro e vt ⟨⟨x',rfl,oT⟩,nT⟩;obtain ⟨a1,c1,a2,c2,a3,c3,rfl,kr⟩:=oT.open q;have gT:=cJ g7 (kg nT);refine ⟨_,rfl,fun _=>⟨ab (ab F6.1 a7.2.2 (Array.getElem?_eq_some_iff.1 F6.1).1) nT (by have:=(Array.getElem?_eq_some_iff.1 F6.1).1;omega),ab (ab F6.2.1 a7.2.2 (Array.getElem?_eq_some_iff.1 F6.2.1).1) nT (by have:=(Array.getElem?_eq_some_iff.1 F6.2.1).1;omega),gT⟩,?_⟩;simp only [Act.put,List.setIfInBounds_toArray,List.set_cons_succ,List.set_cons_zero];have hz:=ab a7.1 nT (by omega);have s6:=F6.2.2.size;have sT:=nT.size;have cu:=(d6.1.below (B:=v6.heap.size) a7.2.2 d6.1.lt).below (B:=(v6.alloc (.cells ztA 34)).heap.size) nT (by have:=d6.1.lt;omega);have HS9:Hid _:=bO (P:=Tryz.prog) (T:=34) (V:=cI (pK q a1 c1 a2 c2 a3 c3) (ak zs m1 s1 x t1 km kd va pk)) hz kj rfl (gv _ _);have e9:=bs (V:=cI (pK q a1 c1 a2 c2 a3 c3) (ak zs m1 s1 x t1 km kd va pk)) hz rfl;have gS:=aU v6.heap.size (cI (pK q a1 c1 a2 c2 a3 c3) (ak zs m1 s1 x t1 km kd va pk)).toList 0 vt _ (aE _ _);have kr2:=KRows.set kr hz (by decide) gS;refine bB 9 rfl (T:=34) (x:=.tmp 17) (y:=.tmp 80) (by kernel_rfl) (by kernel_rfl) (by kernel_rfl) (by kernel_rfl) (b:=v6.heap.size) (off:=0) (by kernel_rfl) (by kernel_rfl) HS9.out (.inl (by kernel_rfl)) ?_;refine bQ (by kernel_rfl) ?_ _;have dW:DrewN wr p f kq vt:=⟨cu,gT⟩;have dF:=dW.own gS (by omega) hpw;generalize (vt.setCells v6.heap.size 0 (cI (pK q a1 c1 a2 c2 a3 c3) (ak zs m1 s1 x t1 km kd va pk)).toList)=vF at *;have K1:=KRows.kn kr2 (r:=p) (by omega) (HX1.out pk);have K2:=KRows.kn kr2 (r:=b7) (by omega) (HX1.out pk);have K3:=KRows.kn kr2 (r:=b8) (by omega) (HX1.out pk);have K4:∀r,r<w.heap.size→KN vF r (pK q a1 c1 a2 c2 a3 c3) (ak zs m1 s1 x t1 km kd va pk).2:=fun r hr=>KRows.kn kr2 (r:=r) (by omega) (HX1.out pk);have G2:=HX2.out pk;generalize ak zs m1 s1 x t1 km kd va pk=XX at *;go_wp2_with fail;go_meet
         case rel=>exact ⟨v6.heap.size,_,XX,kq,rfl,(by omega),e9,dF,K1,K2,K3,K4,G2⟩
     ·as_aux_lemma=>
       have a7:=di wc.drew ztA 34;have a71:(wc.drew.alloc (.cells ztA 34)).heap.size=wc.heap.size+1:=a7.2.1;have a70:wc.drew.heap.size=wc.heap.size:=rfl;have g7':wc.grownBy (wc.drew.alloc (.cells ztA 34)) (some p):=cJ gD (kg a7.2.2);have F7:=HF1.out _ g7';refine kz 8 17 (.pointer (some ⟨wc.heap.size,0,none⟩)) (w':=wc.drew.alloc (.cells ztA 34)) (by kernel_rfl) rfl (by kernel_rfl) (by kernel_rfl) ?_;refine ⟨fun _=>F7,?_⟩;simp only [Act.put,List.setIfInBounds_toArray,List.set_cons_succ,List.set_cons_zero];have cu7:CurN (wc.drew.alloc (.cells ztA 34)) p f k7:=HDd.out.below (B:=wc.drew.heap.size) a7.2.2 HDd.out.lt;refine be 6 79 (by kernel_rfl) rfl (by kernel_rfl) (by kernel_rfl) (f:=30) (args:=#[.pointer (some ⟨p,0,none⟩),.int .i64 256]) (by kernel_rfl) ?_;refine (HBl.out _ cu7).mono ?_;rintro e v6 ⟨pk,kq, -,bpk,rfl,d6⟩;have g6:=cJ g7' d6.2;have F6:=HF1.out v6 g6;refine ⟨_,rfl,fun _=>F6,?_⟩;simp only [Act.put,List.setIfInBounds_toArray,List.set_cons_succ,List.set_cons_zero];have hpc:p<wc.heap.size:=HDc.out.1.lt;have z6:v6.heap[wc.heap.size]?=some (.cells ztA 34 (0,0)):=av a7.1 d6.2 (by omega);have s60:=d6.2.size;refine be 7 80 (by kernel_rfl) rfl (by kernel_rfl) (by kernel_rfl) (f:=8) (args:=#[.slice a len cap,.agg #[.int .i64 m1,.bool s1,.bool x,.int .u64 t1],.agg AK,.int .i64 kd,.int .u64 va,.int .i64 pk]) (by kernel_rfl) ?_;refine (HTr.out v6 pk F6.2.2).mono ?_;rintro e vt ⟨⟨x',rfl,oT⟩,nT⟩;obtain ⟨a1,c1,a2,c2,a3,c3,rfl,kr⟩:=oT.open q;have gT:=cJ F6.2.2 (kg nT);refine ⟨_,rfl,fun _=>⟨ab F6.1 nT (Array.getElem?_eq_some_iff.1 F6.1).1,ab F6.2.1 nT (Array.getElem?_eq_some_iff.1 F6.2.1).1,gT⟩,?_⟩;simp only [Act.put,List.setIfInBounds_toArray,List.set_cons_succ,List.set_cons_zero];have hz:=ab z6 nT (by omega);have s6:=F6.2.2.size;have sT:=nT.size;have sc:=HDc.out.2.size;have cu:=d6.1.below (B:=v6.heap.size) nT d6.1.lt;have HS9:Hid _:=bO (P:=Tryz.prog) (T:=34) (V:=cI (pK q a1 c1 a2 c2 a3 c3) (ak zs m1 s1 x t1 km kd va pk)) hz kj rfl (gv _ _);have e9:=bs (V:=cI (pK q a1 c1 a2 c2 a3 c3) (ak zs m1 s1 x t1 km kd va pk)) hz rfl;have gS:=aU wc.heap.size (cI (pK q a1 c1 a2 c2 a3 c3) (ak zs m1 s1 x t1 km kd va pk)).toList 0 vt _ (aE _ _);have kr2:=KRows.set kr hz (by decide) gS;refine bB 9 rfl (T:=34) (x:=.tmp 17) (y:=.tmp 80) (by kernel_rfl) (by kernel_rfl) (by kernel_rfl) (by kernel_rfl) (b:=wc.heap.size) (off:=0) (by kernel_rfl) (by kernel_rfl) HS9.out (.inl (by kernel_rfl)) ?_;refine bQ (by kernel_rfl) ?_ _;have dW:DrewN wr p f kq vt:=⟨cu,gT⟩;have dF:=dW.own gS (by omega) hpw;generalize (vt.setCells wc.heap.size 0 (cI (pK q a1 c1 a2 c2 a3 c3) (ak zs m1 s1 x t1 km kd va pk)).toList)=vF at *;have K1:=KRows.kn kr2 (r:=p) (by omega) (HX1.out pk);have K2:=KRows.kn kr2 (r:=b7) (by omega) (HX1.out pk);have K3:=KRows.kn kr2 (r:=b8) (by omega) (HX1.out pk);have K4:∀r,r<w.heap.size→KN vF r (pK q a1 c1 a2 c2 a3 c3) (ak zs m1 s1 x t1 km kd va pk).2:=fun r hr=>KRows.kn kr2 (r:=r) (by omega) (HX1.out pk);have G2:=HX2.out pk;generalize ak zs m1 s1 x t1 km kd va pk=XX at *;go_wp2_with fail;go_meet
       case rel=>exact ⟨wc.heap.size,_,XX,kq,rfl,(by omega),e9,dF,K1,K2,K3,K4,G2⟩
   case rest=>
   clear S;obtain ⟨bt,q',X,kf,rfl,lbt,hT,D,kp,k7,k8,kr,hgd⟩:=hcut
   as_aux_lemma=>
    rename World=>wc;have c0:=ag hT 0 (v:=.int .i64 X.1.1) rfl;by_cases hx:X.1.1=63
    ·have hx':(X.1.1 != 63)=false:=by simpa using hx
     have S5:=HS0.out.same D (by omega) (by omega) (by omega) hp0;go_wp2_with fail;go_roundw
     case rel=>exact ⟨i+1,q,km,kf,by omega,by go_num,S5⟩
     case measure=>simp [intOf];omega
    ·have hx':(X.1.1 != 63)=true:=by simpa using hx
     have JT:Hid _:=co (P:=Tryz.prog) (T:=30) hT Tryz.underlying30 rfl (o:=2) (kA q' X.2).toList cK rfl rfl;rw [show (kA q' X.2).toList.toArray=kA q' X.2 from rfl] at JT;have H7:=(HS0.out.same D (by omega) (by omega) (by omega) hp0).h7;obtain ⟨vE,hsE,hE,gE, -⟩:=cC H7 (kA q' X.2) cK rfl (ic _ _);have HSE:Hid _:=hsE;have S5:=HS0.out.take D kp k7 k8 kr (hgd hx) hE gE (by omega) (by omega) (by omega) n67 n87 hp0;clear HS0 hE gE hsE H7 kp k7 k8 kr D hgd;generalize kA q' X.2=AX at JT HSE;go_wp2_with (first | ((with_reducible refine az ?_ JT.out ?_);(exact rfl)) | ((with_reducible refine au ?_ ?_ HSE.out ?_);(exact rfl);(exact rfl)));go_roundw
     case rel=>exact ⟨i+1,q',X.2,kf,by omega,by go_num,S5⟩
     case measure=>simp [intOf];omega
 ·as_aux_lemma=>
   have hin:i=nn:=by omega
   subst hin;have hlt':decide ((i:Int)<(i:Int))=false:=by simp
   have J7:Hid _:=aB (P:=Tryz.prog) (T:=30) S0.h7 Tryz.underlying30 rfl cK;obtain ⟨vE,hsE,hE,gE, -⟩:=cC S0.h8 (kA q km) cK rfl (ic _ _);have HSE:Hid _:=hsE;have dE:=S0.d.own gE (show w.heap.size≤b8 by omega) hp0;have k8:=S0.k8.gb gE;have gg:=S0.good;have kF:KN vE p q km:=⟨k8.k,S0.kp.n1.mono gE.size,S0.kp.n2.mono gE.size,S0.kp.n3.mono gE.size⟩;have HKF:Hid _:=kF;have HKR:Hid (∀r,r<w.heap.size→KN w r q0 km0→KN vE r q km):=fun r hr h=>⟨k8.k,(S0.kr r hr h).n1.mono gE.size,(S0.kr r hr h).n2.mono gE.size,(S0.kr r hr h).n3.mono gE.size⟩;have HhE:Hid _:=hE;clear S0 gE hsE hE k8 kF;obtain ⟨AK,hAK⟩:∃A,kA q km=A:=⟨_,rfl⟩;rw [hAK] at J7 HSE HhE;have hAs:AK.size=9:=by rw [←hAK];rfl
   have EAK:Hid _:=hAK;clear hAK;go_wp2_with (first | ((with_reducible refine az ?_ J7.out ?_);(exact rfl)) | ((with_reducible refine au ?_ ?_ HSE.out ?_);(exact rfl);(exact rfl)));have hL:=bj (P:=Tryz.prog) HhE.out Tryz.underlying30 rfl (by rw [hAs];exact cK);refine ec (b:=b8) Tryz.results32 rfl hL rfl ?_;exact ⟨q,km,kk,by rw [EAK.out],HKF.out,gg,HKR.out,dE⟩
end Go.Proofs.YtaoaifmkhbgaiaaGreat
