import Derived.Test.YthdgiakgepmabaaGreatDk39
import Derived.Test.YthdgiakgepmabaaGreatDk34
namespace Go.Proofs.YthdgiakgepmabaaGreat
open Go.RowKit
set_option linter.unusedVariables false
set_option maxHeartbeats 6400000
set_option maxRecDepth 20000
section
attribute [local go_sem ↓] Go.wp_at_zero Go.wp_at_succ
theorem eW {P:Program} (w:World) {ops:Array Oper} {rest:List Oper} {o:Oper} {a:Act} {Q:Exit->Act->World->Prop} (hgd:o.guard=none) (s x:Operand) (t:TypeId)
 (ho:o.op=.call { callee:=.builtin .append,args:=#[s,x],argTypes:=#[t,t] }) (e:TypeId) (ht:P.underlying t=some (.slice e))
 (hi:(P.info? e).map (fun i=>(i.zero,i.size,i.bytes))=some (some (.int .u8 0),1,1))
 (base g n cap:Nat) (zs:List Int) (hs:a.eval s=SL g n cap) (hown:OwnB e w base g n cap zs)
 (b off m c:Nat) (ys:List Int) (hx:a.eval x=.slice (some (AD b off)) m c) (hy:Byt w (some (AD b off)) m ys) (hbd:n+m<=2147483648)
 (B:Nat) (W:World) (hb:Below B W w) (hB:B<=base)
 (h:∀g' cap' w',OwnB e w' base g' (n+m) cap' (zs++ys)->Below B W w'->w.grownBy w' (some g)->wpList P ops Q rest (a.put o.dst (SL g' (n+m) cap')) w'):wpList P ops Q (o::rest) a w:=by
 obtain ⟨i0,hi,hz0,hz1,hz2⟩:=info_parts hi;have f:=hown.facts;refine wpList_append_own w hgd s x t ho base e i0 (.int .u8 0) 1 1 ht hi hz0 hz1 hz2 rfl (by decide) _ n _ hs hown (AD b off) m c (ys.map (Value.int .u8)) hx (by simp [hy.1]) (zQ hy) (vV _) (by unfold maxLen;omega) (by omega) (by omega) ?_;intro v' w' h1 h2 h3;obtain ⟨g',cap',rfl,o4⟩:=OwnB.of_append h1 h3;exact h g' cap' w' o4 (OwnB.grown hb hown h2 hB) h2
theorem it (x:Int) (w:World) (h0:0<=x) (h1:x<=18446744073709551615):
 Calls Tryz.prog 20 #[VU x] w fun e w'=>∃g cap,e=.returned (SL g 8 cap)∧OwnB 5 w' w.heap.size g 8 cap (bM x 8)∧Bw w w':=by
 go_enter Tryz.func20,Tryz.ntmps20;go_wp2_with fail;have o1:=hid (OwnB.new 5 w [] 0 rfl (by decide));have n1:Bw w (w.alloc (Obj.cells #[] 5)):=(brf).alloc nle _;go_loopw [3,4] (fun bv kv wr=>∃(k g cp:Nat),k<=8∧bv=SL g k cp∧kv=VI k∧OwnB 5 wr w.heap.size g k cp ((bM x 8).take k)∧Bw w wr) (fun _ kv _=>8-(intOf kv).toNat)
 case atStart=>exact ⟨0,_,_,Nat.zero_le _,rfl,rfl,o1.out,n1⟩
 case round=>
  clear o1 n1;obtain ⟨k,g,cp,hk,rfl,rfl,hO,hB⟩:=hrel;have HO:=hid hO;clear hO;by_cases hlt:k<8
  ·obtain ⟨y,hy⟩:∃y,x/2^(8*k)%256=y:=⟨_,rfl⟩;have hyb:0<=y∧y<=255:=by omega
   have hT:Hid ((bM x 8).take (k+1)=(bM x 8).take k++[y]):=by
    show _=_;rcases (show k=0∨k=1∨k=2∨k=3∨k=4∨k=5∨k=6∨k=7 by omega) with rfl | rfl | rfl | rfl | rfl | rfl | rfl | rfl;all_goals (rw [<-hy];simp only [bM,List.take_succ_cons,List.take_zero,List.nil_append,List.cons_append,List.cons.injEq,and_true,true_and];omega)
   have n2:Bw w (wr.alloc (Obj.cells #[Value.int .u8 y] 5)):=hB.alloc hB.size _;have O3:=hid (HO.out.keep ((Below.refl wr.heap.size wr).alloc nle (Obj.cells #[Value.int .u8 y] 5)) HO.out.facts.2.2.1);have y3:=hid (Ac wr 5 y hyb);clear HO;go_wp2_with (at_builtin;refine dC _ rfl (.tmp 10) (.tmp 17) 22 rfl 5 Tryz.underlying22 Tryz.infoB w.heap.size _ _ _ _ rfl O3.out wr.heap.size 0 1 1 [y] rfl y3.out (by omega) _ _ n2 nle ?_;intro g4 cp4 v4 o4 n4;clear O3);go_roundw
   case rel=>exact ⟨k+1,g4,cp4,by omega,rfl,by go_num,by rw [hT.out];exact o4,n4⟩
   case measure=>simp [intOf];omega
  ·have hkn:k=8:=by omega
   subst hkn;go_wp2;go_ret;exact ⟨g,cp,rfl,HO.out,hB⟩
def dW (ad:Int) (bs:List Int):List Int:=[ad%256,ad/256,(bs.length:Int)]++bs
theorem gD (ad:Int) (b off m c:Nat) (ys:List Int) (w:World) (ha:0<=ad∧ad<=65535) (hy:Byt w (some (AD b off)) m ys) (hm:m<=255):
 Calls Tryz.prog 21 #[VI ad,.slice (some (AD b off)) m c] w fun e w'=>∃g cap,e=.returned (SL g (3+m) cap)∧OwnB 5 w' w.heap.size g (3+m) cap (dW ad ys)∧Bw w w':=by
 have hl:=hy.1;unfold dW;rw [hl];have hm8:(m:Int)%256=m:=by omega
 obtain ⟨ha0,ha1⟩:=ha;obtain ⟨q1,hq1⟩:∃q,ad%256=q:=⟨_,rfl⟩;obtain ⟨q2,hq2⟩:∃q,ad/256=q:=⟨_,rfl⟩;have b1:0<=q1∧q1<=255:=by omega
 have b2:0<=q2∧q2<=255:=by omega
 have h11:q1%256=q1:=by omega
 have h22:q2%256=q2:=by omega
 rw [hq1,hq2];have o1:=hid (OwnB.new 5 w [q1,q2,(m:Int)] 3 rfl (by decide));have n1:Bw w (w.alloc (Obj.cells #[Value.int .u8 q1,Value.int .u8 q2,Value.int .u8 (m:Int)] 5)):=(brf).alloc nle _;have y1:=hid (hy.keep n1);clear hy hl;go_enter Tryz.func21,Tryz.ntmps21;go_wp2_with (at_builtin;refine dC _ rfl (.tmp 14) (.tmp 15) 22 rfl 5 Tryz.underlying22 Tryz.infoB w.heap.size _ _ _ _ rfl o1.out b off m c ys rfl y1.out (by omega) _ _ n1 nle ?_;intro g4 cp4 v4 o4 n4;clear o1 y1);go_ret;exact ⟨g4,cp4,rfl,o4,n4⟩
end
section
attribute [local go_sem ↓] Go.wp_at_zero Go.wp_at_succ
def Ha (how:Int):List Int:=if how=1 then [11,0,0,0] else if how=2 then [11,1,0,0] else if how=3 then [11,40,0,0] else if how=4 then [11,41,0,0] else []
def fF (how:Int):List Int:=[5,15,0,0,6,19,3,0]++Ha how++[5,14,0,0]
def tW:List Int:=[0,0,9223389629040820225,128,4432,11463,0,9223389629040820225,0,0]
def qT (i:Nat):List Int:=(tW.take i).flatMap fun x=>bM x 8
def gI (a b how:Int) (ps:List Int):List Int:=
 [4,4,4,15,1,if how=0 then 3 else 4,0]++qT 10++[8]++dW 64 (bM 3073 8)++dW 72 (bM 199 8)++dW 192 (bM 5121 8)++dW 320 (bM 8267 8)++dW 336 (bM 10439 8)++dW 640 [a]++dW 704 [b]++dW 512 (fF how)++ps
theorem fh {ad:Int} {ys:List Int} (ha:0<=ad∧ad<=65535) (hl:ys.length<=255) (hy:∀z∈ys,0<=z∧z<=255):∀z∈dW ad ys,0<=z∧z<=255:=by
 intro z hz;simp only [dW,List.cons_append,List.nil_append,List.mem_cons] at hz;rcases hz with rfl | rfl | rfl | hz
 ·omega
 ·omega
 ·omega
 ·exact hy z hz
theorem go (w:World) (A:Array Value) (zs:List Int) (n:Nat) (hA:A=(zs.map (Value.int .u8)).toArray) (hn:zs.length=n) (hz:∀z∈zs,0<=z∧z<=255) (hm:n<=1000):
 ∃v,Hid (w.alloc (.cells A 5)=v)∧Bw w v∧Hid (OwnB 5 v w.heap.size w.heap.size n n zs)∧Hid (Byt v (some (AD w.heap.size 0)) n zs):=by
 subst hA;have o:=OwnB.new 5 w zs n hn (by unfold maxLen;omega);exact ⟨_,rfl,(brf).alloc nle _,o,o.byt (bU hz)⟩
theorem OwnB.kp {e:TypeId} {w w':World} {base g n cap:Nat} {zs:List Int} (h:OwnB e w base g n cap zs) (hb:Bw w w'):OwnB e w' base g n cap zs:=h.keep hb h.facts.2.2.1
theorem tA (a b how:Int) (pb po pl pc:Nat) (ps:List Int) (w:World) (ha:0<=a∧a<=255) (hb:0<=b∧b<=255) (hh:how=0∨how=1∨how=2∨how=3∨how=4) (hp:Byt w (some (AD pb po)) pl ps) (hpp:pl<=255):
 Calls Tryz.prog 10 #[.int .u8 a,.int .u8 b,VI how,.slice (some (AD pb po)) pl pc] w fun e w'=>∃g cap n,e=.returned (SL g n cap)∧n<=1000∧OwnB 5 w' w.heap.size g n cap (gI a b how ps)∧Bw w w':=by
 have HP:=hid hp;have la:=go;obtain ⟨v0,E0,n0,O0,_⟩:=go w #[.int .u8 5,.int .u8 15,.int .u8 0,.int .u8 0,.int .u8 6,.int .u8 19,.int .u8 3,.int .u8 0] [5,15,0,0,6,19,3,0] 8 rfl rfl (by decide) (by decide);clear hp la;rcases hh with rfl | rfl | rfl | rfl | rfl
 focus
  go_enter Tryz.func10,Tryz.ntmps10;go_upto_region 13 with fail;rw [E0.out];obtain ⟨v1,E1,m1,_,y1⟩:=go v0 #[.int .u8 5,.int .u8 14,.int .u8 0,.int .u8 0] [5,14,0,0] 4 rfl rfl (by decide) (by decide);have O1:=hid (O0.out.kp m1);go_upto_region 14 with (at_builtin;rw [E1.out];refine dC _ rfl (.tmp 38) (.tmp 39) 22 rfl 5 Tryz.underlying22 Tryz.infoB w.heap.size _ _ _ _ rfl O1.out v0.heap.size 0 4 4 [5,14,0,0] rfl y1.out (by omega) _ _ (bst n0 m1) nle ?_;intro gC cC vC oC nC);clear E1 m1 y1 O1;have OC:Hid (OwnB 5 vC w.heap.size gC 12 cC (fF 0)):=oC;obtain ⟨v3,E3,m3,O3,_⟩:=go vC #[.int .u8 4,.int .u8 4,.int .u8 4,.int .u8 15,.int .u8 1,.int .u8 3,.int .u8 0] [4,4,4,15,1,3,0] 7 rfl rfl (by decide) (by decide);obtain ⟨pre,hpre⟩:∃pre:List Int,[4,4,4,15,1,3,0]=pre:=⟨_,rfl⟩;have HPre:Hid (gI a b 0 ps=pre++qT 10++[8]++dW 64 (bM 3073 8)++dW 72 (bM 199 8)++dW 192 (bM 5121 8)++dW 320 (bM 8267 8)++dW 336 (bM 10439 8)++dW 640 [a]++dW 704 [b]++dW 512 (fF 0)++ps):=by show _=_;rw [<-hpre];rfl
  have CM:∀z∈fF 0,0<=z∧z<=255:=by decide
  have CB:=hid (fh (ad:=512) (by omega) (by decide) CM);obtain ⟨CW,hCW⟩:∃CW,fF 0=CW:=⟨_,rfl⟩;rw [hpre] at O3;rw [hCW] at OC HPre CB CM;clear oC hpre hCW E0 O0
 rotate_left
 focus
  go_enter Tryz.func10,Tryz.ntmps10;go_upto_region 6 with fail;rw [E0.out];obtain ⟨v1,E1,m1,_,y1⟩:=go v0 #[.int .u8 11,.int .u8 0,.int .u8 0,.int .u8 0] [11,0,0,0] 4 rfl rfl (by decide) (by decide);have O1:=hid (O0.out.kp m1);go_upto_region 13 with (at_builtin;rw [E1.out];refine dC _ rfl (.tmp 20) (.tmp 21) 22 rfl 5 Tryz.underlying22 Tryz.infoB w.heap.size _ _ _ _ rfl O1.out v0.heap.size 0 4 4 [11,0,0,0] rfl y1.out (by omega) _ _ (bst n0 m1) nle ?_;intro gB cB vB oB nB);obtain ⟨v2,E2,m2,_,y2⟩:=go vB #[.int .u8 5,.int .u8 14,.int .u8 0,.int .u8 0] [5,14,0,0] 4 rfl rfl (by decide) (by decide);have O2:=hid (oB.kp m2);clear oB E1 m1 y1 O1;go_upto_region 14 with (at_builtin;rw [E2.out];refine dC _ rfl (.tmp 38) (.tmp 39) 22 rfl 5 Tryz.underlying22 Tryz.infoB w.heap.size _ _ _ _ rfl O2.out vB.heap.size 0 4 4 [5,14,0,0] rfl y2.out (by omega) _ _ (bst nB m2) nle ?_;intro gC cC vC oC nC);clear E2 m2 y2 O2 nB;have OC:Hid (OwnB 5 vC w.heap.size gC 16 cC (fF 1)):=oC;obtain ⟨v3,E3,m3,O3,_⟩:=go vC #[.int .u8 4,.int .u8 4,.int .u8 4,.int .u8 15,.int .u8 1,.int .u8 4,.int .u8 0] [4,4,4,15,1,4,0] 7 rfl rfl (by decide) (by decide);obtain ⟨pre,hpre⟩:∃pre:List Int,[4,4,4,15,1,4,0]=pre:=⟨_,rfl⟩;have HPre:Hid (gI a b 1 ps=pre++qT 10++[8]++dW 64 (bM 3073 8)++dW 72 (bM 199 8)++dW 192 (bM 5121 8)++dW 320 (bM 8267 8)++dW 336 (bM 10439 8)++dW 640 [a]++dW 704 [b]++dW 512 (fF 1)++ps):=by show _=_;rw [<-hpre];rfl
  have CM:∀z∈fF 1,0<=z∧z<=255:=by decide
  have CB:=hid (fh (ad:=512) (by omega) (by decide) CM);obtain ⟨CW,hCW⟩:∃CW,fF 1=CW:=⟨_,rfl⟩;rw [hpre] at O3;rw [hCW] at OC HPre CB CM;clear oC hpre hCW E0 O0
 rotate_left
 focus
  go_enter Tryz.func10,Tryz.ntmps10;go_upto_region 8 with fail;rw [E0.out];obtain ⟨v1,E1,m1,_,y1⟩:=go v0 #[.int .u8 11,.int .u8 1,.int .u8 0,.int .u8 0] [11,1,0,0] 4 rfl rfl (by decide) (by decide);have O1:=hid (O0.out.kp m1);go_upto_region 13 with (at_builtin;rw [E1.out];refine dC _ rfl (.tmp 25) (.tmp 26) 22 rfl 5 Tryz.underlying22 Tryz.infoB w.heap.size _ _ _ _ rfl O1.out v0.heap.size 0 4 4 [11,1,0,0] rfl y1.out (by omega) _ _ (bst n0 m1) nle ?_;intro gB cB vB oB nB);obtain ⟨v2,E2,m2,_,y2⟩:=go vB #[.int .u8 5,.int .u8 14,.int .u8 0,.int .u8 0] [5,14,0,0] 4 rfl rfl (by decide) (by decide);have O2:=hid (oB.kp m2);clear oB E1 m1 y1 O1;go_upto_region 14 with (at_builtin;rw [E2.out];refine dC _ rfl (.tmp 38) (.tmp 39) 22 rfl 5 Tryz.underlying22 Tryz.infoB w.heap.size _ _ _ _ rfl O2.out vB.heap.size 0 4 4 [5,14,0,0] rfl y2.out (by omega) _ _ (bst nB m2) nle ?_;intro gC cC vC oC nC);clear E2 m2 y2 O2 nB;have OC:Hid (OwnB 5 vC w.heap.size gC 16 cC (fF 2)):=oC;obtain ⟨v3,E3,m3,O3,_⟩:=go vC #[.int .u8 4,.int .u8 4,.int .u8 4,.int .u8 15,.int .u8 1,.int .u8 4,.int .u8 0] [4,4,4,15,1,4,0] 7 rfl rfl (by decide) (by decide);obtain ⟨pre,hpre⟩:∃pre:List Int,[4,4,4,15,1,4,0]=pre:=⟨_,rfl⟩;have HPre:Hid (gI a b 2 ps=pre++qT 10++[8]++dW 64 (bM 3073 8)++dW 72 (bM 199 8)++dW 192 (bM 5121 8)++dW 320 (bM 8267 8)++dW 336 (bM 10439 8)++dW 640 [a]++dW 704 [b]++dW 512 (fF 2)++ps):=by show _=_;rw [<-hpre];rfl
  have CM:∀z∈fF 2,0<=z∧z<=255:=by decide
  have CB:=hid (fh (ad:=512) (by omega) (by decide) CM);obtain ⟨CW,hCW⟩:∃CW,fF 2=CW:=⟨_,rfl⟩;rw [hpre] at O3;rw [hCW] at OC HPre CB CM;clear oC hpre hCW E0 O0
 rotate_left
 focus
  go_enter Tryz.func10,Tryz.ntmps10;go_upto_region 10 with fail;rw [E0.out];obtain ⟨v1,E1,m1,_,y1⟩:=go v0 #[.int .u8 11,.int .u8 40,.int .u8 0,.int .u8 0] [11,40,0,0] 4 rfl rfl (by decide) (by decide);have O1:=hid (O0.out.kp m1);go_upto_region 13 with (at_builtin;rw [E1.out];refine dC _ rfl (.tmp 30) (.tmp 31) 22 rfl 5 Tryz.underlying22 Tryz.infoB w.heap.size _ _ _ _ rfl O1.out v0.heap.size 0 4 4 [11,40,0,0] rfl y1.out (by omega) _ _ (bst n0 m1) nle ?_;intro gB cB vB oB nB);obtain ⟨v2,E2,m2,_,y2⟩:=go vB #[.int .u8 5,.int .u8 14,.int .u8 0,.int .u8 0] [5,14,0,0] 4 rfl rfl (by decide) (by decide);have O2:=hid (oB.kp m2);clear oB E1 m1 y1 O1;go_upto_region 14 with (at_builtin;rw [E2.out];refine dC _ rfl (.tmp 38) (.tmp 39) 22 rfl 5 Tryz.underlying22 Tryz.infoB w.heap.size _ _ _ _ rfl O2.out vB.heap.size 0 4 4 [5,14,0,0] rfl y2.out (by omega) _ _ (bst nB m2) nle ?_;intro gC cC vC oC nC);clear E2 m2 y2 O2 nB;have OC:Hid (OwnB 5 vC w.heap.size gC 16 cC (fF 3)):=oC;obtain ⟨v3,E3,m3,O3,_⟩:=go vC #[.int .u8 4,.int .u8 4,.int .u8 4,.int .u8 15,.int .u8 1,.int .u8 4,.int .u8 0] [4,4,4,15,1,4,0] 7 rfl rfl (by decide) (by decide);obtain ⟨pre,hpre⟩:∃pre:List Int,[4,4,4,15,1,4,0]=pre:=⟨_,rfl⟩;have HPre:Hid (gI a b 3 ps=pre++qT 10++[8]++dW 64 (bM 3073 8)++dW 72 (bM 199 8)++dW 192 (bM 5121 8)++dW 320 (bM 8267 8)++dW 336 (bM 10439 8)++dW 640 [a]++dW 704 [b]++dW 512 (fF 3)++ps):=by show _=_;rw [<-hpre];rfl
  have CM:∀z∈fF 3,0<=z∧z<=255:=by decide
  have CB:=hid (fh (ad:=512) (by omega) (by decide) CM);obtain ⟨CW,hCW⟩:∃CW,fF 3=CW:=⟨_,rfl⟩;rw [hpre] at O3;rw [hCW] at OC HPre CB CM;clear oC hpre hCW E0 O0
 rotate_left
 focus
  go_enter Tryz.func10,Tryz.ntmps10;go_upto_region 12 with fail;rw [E0.out];obtain ⟨v1,E1,m1,_,y1⟩:=go v0 #[.int .u8 11,.int .u8 41,.int .u8 0,.int .u8 0] [11,41,0,0] 4 rfl rfl (by decide) (by decide);have O1:=hid (O0.out.kp m1);go_upto_region 13 with (at_builtin;rw [E1.out];refine dC _ rfl (.tmp 35) (.tmp 36) 22 rfl 5 Tryz.underlying22 Tryz.infoB w.heap.size _ _ _ _ rfl O1.out v0.heap.size 0 4 4 [11,41,0,0] rfl y1.out (by omega) _ _ (bst n0 m1) nle ?_;intro gB cB vB oB nB);obtain ⟨v2,E2,m2,_,y2⟩:=go vB #[.int .u8 5,.int .u8 14,.int .u8 0,.int .u8 0] [5,14,0,0] 4 rfl rfl (by decide) (by decide);have O2:=hid (oB.kp m2);clear oB E1 m1 y1 O1;go_upto_region 14 with (at_builtin;rw [E2.out];refine dC _ rfl (.tmp 38) (.tmp 39) 22 rfl 5 Tryz.underlying22 Tryz.infoB w.heap.size _ _ _ _ rfl O2.out vB.heap.size 0 4 4 [5,14,0,0] rfl y2.out (by omega) _ _ (bst nB m2) nle ?_;intro gC cC vC oC nC);clear E2 m2 y2 O2 nB;have OC:Hid (OwnB 5 vC w.heap.size gC 16 cC (fF 4)):=oC;obtain ⟨v3,E3,m3,O3,_⟩:=go vC #[.int .u8 4,.int .u8 4,.int .u8 4,.int .u8 15,.int .u8 1,.int .u8 4,.int .u8 0] [4,4,4,15,1,4,0] 7 rfl rfl (by decide) (by decide);obtain ⟨pre,hpre⟩:∃pre:List Int,[4,4,4,15,1,4,0]=pre:=⟨_,rfl⟩;have HPre:Hid (gI a b 4 ps=pre++qT 10++[8]++dW 64 (bM 3073 8)++dW 72 (bM 199 8)++dW 192 (bM 5121 8)++dW 320 (bM 8267 8)++dW 336 (bM 10439 8)++dW 640 [a]++dW 704 [b]++dW 512 (fF 4)++ps):=by show _=_;rw [<-hpre];rfl
  have CM:∀z∈fF 4,0<=z∧z<=255:=by decide
  have CB:=hid (fh (ad:=512) (by omega) (by decide) CM);obtain ⟨CW,hCW⟩:∃CW,fF 4=CW:=⟨_,rfl⟩;rw [hpre] at O3;rw [hCW] at OC HPre CB CM;clear oC hpre hCW E0 O0
 rotate_left
 all_goals
  go_upto_region 16 with fail;rw [E3.out];obtain ⟨v4,E4,m4,H4,l4⟩:=al1 v3 #[VU 0,VU 0,VU 9223389629040820225,VU 128,VU 4432,VU 11463,VU 0,VU 9223389629040820225,VU 0,VU 0] 33;have O4:=hid (O3.out.kp m4);have n4:Bw w v4:=bst nC (bst m3 m4);have OCC:=OC;clear E3 O3 OC;go_wp2_with fail;rw [E4.out];clear E4;have NL:Hid (#[VU 0,VU 0,VU 9223389629040820225,VU 128,VU 4432,VU 11463,VU 0,VU 9223389629040820225,VU 0,VU 0]=(tW.map (Value.int .u64)).toArray):=by show _=_;rfl
  rw [NL.out] at H4;clear NL;have b4:Bw vC v4:=bst m3 m4;go_loopw [11,14] (fun bv kv wr=>∃(k g cp:Nat),k<=10∧bv=SL g (7+8*k) cp∧kv=VI k∧OwnB 5 wr vC.heap.size g (7+8*k) cp (pre++qT k)∧Bw vC wr∧wr.heap[v3.heap.size]?=some (.cells (tW.map (Value.int .u64)).toArray 33 (0,0))) (fun _ kv _=>10-(intOf kv).toNat)
  case atStart=>exact ⟨0,_,_,Nat.zero_le _,rfl,rfl,by rw [show qT 0=[] from rfl,List.append_nil];exact O4.out,b4,H4.out⟩
  case round=>
  clear O4 H4 b4;obtain ⟨k,g,cp,hk,rfl,rfl,hO,hB,hN⟩:=hrel;have HO:=hid hO;have HNu:=hid hN;have lv3:=hpl hN;clear hO hN;by_cases hlt:k<10
  ·obtain ⟨x,hx⟩:∃x,tW[k]?=some x:=⟨_,geg (show k<tW.length from hlt)⟩;have hxb:0<=x∧x<=18446744073709551615:=(show ∀x∈tW,0<=x∧x<=18446744073709551615 by decide) x (List.mem_of_getElem? hx);have hcx:wr.cell? (AD v3.heap.size k)=some (VU x):=ab HNu.out k (by simp [hx]);have hNb:Hid (qT (k+1)=qT k++bM x 8):=by show _=_;unfold qT;rw [List.take_add_one,hx];simp
   have hk10:decide ((k:Int)<10)=true:=by simp;omega
   clear hx;go_wp2_with fail;refine (it x wr hxb.1 hxb.2).mono ?_;rintro e u1 ⟨g1,c1,rfl,o1,m1⟩;have O5:=hid (HO.out.kp m1);have y5:=hid (o1.byt (bU (eB 8 x)));have n5:Bw vC u1:=bst hB m1;have N5:=ah HNu m1;have hne:v3.heap.size≠g:=fun e=>bY O5.out N5.out (by decide) (by rw [e];rfl);clear o1 HO hcx HNu;go_wp2_with (at_builtin;refine eW _ rfl (.tmp 53) (.tmp 58) 22 rfl 5 Tryz.underlying22 Tryz.infoB vC.heap.size _ _ _ _ rfl O5.out g1 0 8 c1 (bM x 8) rfl y5.out (by omega) _ _ n5 nle ?_;intro g6 c6 u6 o6 n6 w6;clear O5 y5);go_roundw
   case rel=>exact ⟨k+1,g6,c6,by omega,by rw [Nat.mul_add,<-Nat.add_assoc],by go_num,by rw [hNb.out,<-List.append_assoc,Nat.mul_add,<-Nat.add_assoc];exact o6,n6,aA N5.out w6 hne⟩
   case measure=>simp [intOf];omega
  ·have hkn:k=10:=by omega
   subst hkn;clear HNu lv3;obtain ⟨u0,E0,m0,_,y0⟩:=go wr #[.int .u8 8] [8] 1 rfl rfl (by decide) (by decide);have Q0:=hid (HO.out.kp m0);clear HO;go_upto_region 22 with (at_builtin;rw [E0.out];refine eW _ rfl (.tmp 60) (.tmp 61) 22 rfl 5 Tryz.underlying22 Tryz.infoB vC.heap.size _ _ _ _ rfl Q0.out wr.heap.size 0 1 1 [8] rfl y0.out (by omega) _ _ (bst hB m0) nle ?_;intro g0 c0 x0 o0 n0x w0);have P0:=hid o0;clear E0 m0 y0 Q0 o0 w0 hB;go_wp2_with fail;refine (it 3073 x0 (by omega) (by omega)).mono ?_;rintro e p1 ⟨g1a,c1a,rfl,o1a,m1a⟩;have y1a:=o1a.byt (bU (eB 8 3073));go_wp2_with fail;refine (gD 64 g1a 0 8 c1a _ p1 (by omega) y1a (by omega)).mono ?_;rintro e q1 ⟨g1b,c1b,rfl,o1b,m1b⟩;have Q1:=hid (P0.out.kp (bst m1a m1b));have y1:=hid (o1b.byt (bU (fh (by omega) (by decide) (eB 8 3073))));have k1:=bst n0x (bst m1a m1b);clear y1a o1a o1b P0 n0x m1a m1b;go_upto_region 23 with (at_builtin;refine eW _ rfl (.tmp 63) (.tmp 65) 22 rfl 5 Tryz.underlying22 Tryz.infoB vC.heap.size _ _ _ _ rfl Q1.out g1b 0 (3+8) c1b _ rfl y1.out (by omega) _ _ k1 nle ?_;intro g1 c1 x1 o1 n1x w1);have P1:=hid o1;clear Q1 y1 k1 o1 w1;go_wp2_with fail;refine (it 199 x1 (by omega) (by omega)).mono ?_;rintro e p2 ⟨g2a,c2a,rfl,o2a,m2a⟩;have y2a:=o2a.byt (bU (eB 8 199));go_wp2_with fail;refine (gD 72 g2a 0 8 c2a _ p2 (by omega) y2a (by omega)).mono ?_;rintro e q2 ⟨g2b,c2b,rfl,o2b,m2b⟩;have Q2:=hid (P1.out.kp (bst m2a m2b));have y2:=hid (o2b.byt (bU (fh (by omega) (by decide) (eB 8 199))));have k2:=bst n1x (bst m2a m2b);clear y2a o2a o2b P1 n1x m2a m2b;go_upto_region 24 with (at_builtin;refine eW _ rfl (.tmp 67) (.tmp 69) 22 rfl 5 Tryz.underlying22 Tryz.infoB vC.heap.size _ _ _ _ rfl Q2.out g2b 0 (3+8) c2b _ rfl y2.out (by omega) _ _ k2 nle ?_;intro g2 c2 x2 o2 n2x w2);have P2:=hid o2;clear Q2 y2 k2 o2 w2;go_wp2_with fail;refine (it 5121 x2 (by omega) (by omega)).mono ?_;rintro e p3 ⟨g3a,c3a,rfl,o3a,m3a⟩;have y3a:=o3a.byt (bU (eB 8 5121));go_wp2_with fail;refine (gD 192 g3a 0 8 c3a _ p3 (by omega) y3a (by omega)).mono ?_;rintro e q3 ⟨g3b,c3b,rfl,o3b,m3b⟩;have Q3:=hid (P2.out.kp (bst m3a m3b));have y3:=hid (o3b.byt (bU (fh (by omega) (by decide) (eB 8 5121))));have k3:=bst n2x (bst m3a m3b);clear y3a o3a o3b P2 n2x m3a m3b;go_upto_region 25 with (at_builtin;refine eW _ rfl (.tmp 71) (.tmp 73) 22 rfl 5 Tryz.underlying22 Tryz.infoB vC.heap.size _ _ _ _ rfl Q3.out g3b 0 (3+8) c3b _ rfl y3.out (by omega) _ _ k3 nle ?_;intro g3 c3 x3 o3 n3x w3);have P3:=hid o3;clear Q3 y3 k3 o3 w3;go_wp2_with fail;refine (it 8267 x3 (by omega) (by omega)).mono ?_;rintro e p4 ⟨g4a,c4a,rfl,o4a,m4a⟩;have y4a:=o4a.byt (bU (eB 8 8267));go_wp2_with fail;refine (gD 320 g4a 0 8 c4a _ p4 (by omega) y4a (by omega)).mono ?_;rintro e q4 ⟨g4b,c4b,rfl,o4b,m4b⟩;have Q4:=hid (P3.out.kp (bst m4a m4b));have y4:=hid (o4b.byt (bU (fh (by omega) (by decide) (eB 8 8267))));have k4:=bst n3x (bst m4a m4b);clear y4a o4a o4b P3 n3x m4a m4b;go_upto_region 26 with (at_builtin;refine eW _ rfl (.tmp 75) (.tmp 77) 22 rfl 5 Tryz.underlying22 Tryz.infoB vC.heap.size _ _ _ _ rfl Q4.out g4b 0 (3+8) c4b _ rfl y4.out (by omega) _ _ k4 nle ?_;intro g4 c4 x4 o4 n4x w4);have P4:=hid o4;clear Q4 y4 k4 o4 w4;go_wp2_with fail;refine (it 10439 x4 (by omega) (by omega)).mono ?_;rintro e p5 ⟨g5a,c5a,rfl,o5a,m5a⟩;have y5a:=o5a.byt (bU (eB 8 10439));go_wp2_with fail;refine (gD 336 g5a 0 8 c5a _ p5 (by omega) y5a (by omega)).mono ?_;rintro e q5 ⟨g5b,c5b,rfl,o5b,m5b⟩;have Q5:=hid (P4.out.kp (bst m5a m5b));have y5:=hid (o5b.byt (bU (fh (by omega) (by decide) (eB 8 10439))));have k5:=bst n4x (bst m5a m5b);clear y5a o5a o5b P4 n4x m5a m5b;go_upto_region 27 with (at_builtin;refine eW _ rfl (.tmp 79) (.tmp 81) 22 rfl 5 Tryz.underlying22 Tryz.infoB vC.heap.size _ _ _ _ rfl Q5.out g5b 0 (3+8) c5b _ rfl y5.out (by omega) _ _ k5 nle ?_;intro g5 c5 x5 o5 n5x w5);have P5:=hid o5;clear Q5 y5 k5 o5 w5;obtain ⟨p6,E6,m6a,_,y6a⟩:=go x5 #[.int .u8 a] [a] 1 rfl rfl (by simpa using ha) (by decide);go_wp2_with fail;rw [E6.out];refine (gD 640 x5.heap.size 0 1 1 _ p6 (by omega) y6a.out (by omega)).mono ?_;rintro e q6 ⟨g6b,c6b,rfl,o6b,m6b⟩;have Q6:=hid (P5.out.kp (bst m6a m6b));have y6:=hid (o6b.byt (bU (fh (by omega) (show 1<=255 by decide) (by simpa using ha))));have k6:=bst n5x (bst m6a m6b);clear E6 y6a o6b P5 n5x m6a m6b;go_upto_region 28 with (at_builtin;refine eW _ rfl (.tmp 83) (.tmp 86) 22 rfl 5 Tryz.underlying22 Tryz.infoB vC.heap.size _ _ _ _ rfl Q6.out g6b 0 (3+1) c6b _ rfl y6.out (by omega) _ _ k6 nle ?_;intro g6 c6 x6 o6 n6x w6);have P6:=hid o6;clear Q6 y6 k6 o6 w6;obtain ⟨p7,E7,m7a,_,y7a⟩:=go x6 #[.int .u8 b] [b] 1 rfl rfl (by simpa using hb) (by decide);go_wp2_with fail;rw [E7.out];refine (gD 704 x6.heap.size 0 1 1 _ p7 (by omega) y7a.out (by omega)).mono ?_;rintro e q7 ⟨g7b,c7b,rfl,o7b,m7b⟩;have Q7:=hid (P6.out.kp (bst m7a m7b));have y7:=hid (o7b.byt (bU (fh (by omega) (show 1<=255 by decide) (by simpa using hb))));have k7:=bst n6x (bst m7a m7b);clear E7 y7a o7b P6 n6x m7a m7b;go_upto_region 29 with (at_builtin;refine eW _ rfl (.tmp 88) (.tmp 91) 22 rfl 5 Tryz.underlying22 Tryz.infoB vC.heap.size _ _ _ _ rfl Q7.out g7b 0 (3+1) c7b _ rfl y7.out (by omega) _ _ k7 nle ?_;intro g7 c7 x7 o7 n7x w7);have P7:=hid o7;clear Q7 y7 k7 o7 w7;have YC:=hid ((OCC.out.kp n7x).byt (bU CM));go_wp2_with fail;refine (gD 512 gC 0 _ cC _ x7 (by omega) YC.out (by omega)).mono ?_;rintro e q8 ⟨g8b,c8b,rfl,o8b,m8b⟩;have Q8:=hid (P7.out.kp m8b);have y8:=hid (o8b.byt (bU CB.out));have k8:=bst n7x m8b;clear o8b P7 n7x m8b YC;go_upto_region 30 with (at_builtin;refine eW _ rfl (.tmp 93) (.tmp 95) 22 rfl 5 Tryz.underlying22 Tryz.infoB vC.heap.size _ _ _ _ rfl Q8.out g8b 0 _ c8b _ rfl y8.out (by omega) _ _ k8 nle ?_;intro g8 c8 x8 o8 n8x w8);have P8:=hid o8;clear Q8 y8 k8 o8 w8;have YP:=hid (HP.out.keep (bst nC n8x));go_wp2_with (at_builtin;refine eW _ rfl (.tmp 97) (.tmp 98) 22 rfl 5 Tryz.underlying22 Tryz.infoB vC.heap.size _ _ _ _ rfl P8.out pb po pl pc ps rfl YP.out (by omega) _ _ n8x nle ?_;intro gZ cZ vZ oZ nZ wZ);go_ret;refine ⟨gZ,cZ,_,rfl,by omega,?_,bst nC nZ⟩;rw [HPre.out];exact oZ.low (by have:=nC.size;omega)
end
set_option maxRecDepth 100000
abbrev xT (x a:Int):List Int:=[0,128,4432,11463,0,9223389629040820225,x,a]
theorem Fh (a b:Nat):hU (bE (gI a b 0 [])) (aJ (gI a b 0 [])) [] 0=(false,2):=by kernel_rfl
theorem Fi (a b:Nat):(eI false (bE (gI a b 0 [0,0,0])) (aJ (gI a b 0 [0,0,0]))).2.regs=xT a a:=by kernel_rfl
theorem Fj (a b:Nat):(eI false (bE (gI a b 0 [0,0,128])) (aJ (gI a b 0 [0,0,128]))).2.regs=xT b a:=by kernel_rfl
theorem Hk (zs:List Int):CovK (aJ zs).k []:=by
 have h:∀n:Nat,∀e∈List.replicate n cM,e.valid=true->∃g∈([]:List ay),yf g e:=fun n e he hv=>by
  rw [List.eq_of_mem_replicate he] at hv;cases hv
 exact ⟨h _,h _,h _⟩
structure WitF (a b:Nat) (z ps:List Int):Prop where
 pick:bE z=ps
 dis:hU [0,0,0,0] (aJ z) [] 0=(true,4)
 regs:(eI true [0,0,0,0] (aJ z)).2.regs=xT b a
 good:cz (aJ z).k=true
 m1:(aJ z).mode=1
 m2:(aJ z).emode=1
theorem Hl (a b:Nat) (p q r s:Int):WitF a b (gI a b 1 [p,q,r,s]) [p,q,r,s]:=⟨by kernel_rfl,by kernel_rfl,by kernel_rfl,by kernel_rfl,by kernel_rfl,by kernel_rfl⟩
theorem Hn (a b:Nat) (p q r s:Int):WitF a b (gI a b 2 [p,q,r,s]) [p,q,r,s]:=⟨by kernel_rfl,by kernel_rfl,by kernel_rfl,by kernel_rfl,by kernel_rfl,by kernel_rfl⟩
theorem Ho (a b:Nat) (p q r s:Int):WitF a b (gI a b 3 [p,q,r,s]) [p,q,r,s]:=⟨by kernel_rfl,by kernel_rfl,by kernel_rfl,by kernel_rfl,by kernel_rfl,by kernel_rfl⟩
theorem Hp (a b:Nat) (p q r s:Int):WitF a b (gI a b 4 [p,q,r,s]) [p,q,r,s]:=⟨by kernel_rfl,by kernel_rfl,by kernel_rfl,by kernel_rfl,by kernel_rfl,by kernel_rfl⟩
theorem Fl (a b:Nat) (how:Int) (ps:List Int) (hh:how=1∨how=2∨how=3∨how=4) (hl:ps.length=4):WitF a b (gI a b how ps) ps:=by
 rcases ps with _ | ⟨p,_ | ⟨q,_ | ⟨r,_ | ⟨s,_ | ⟨t,ps⟩⟩⟩⟩⟩ <;> simp at hl;rcases hh with rfl | rfl | rfl | rfl
 ·exact Hl a b p q r s
 ·exact Hn a b p q r s
 ·exact Ho a b p q r s
 ·exact Hp a b p q r s
theorem Fm {a b:Nat} {z ps:List Int} (h:WitF a b z ps) (hl:ps.length=4) (hp:∀q∈ps,0<=q∧q<=255):hU (bE z) (aJ z) [] 0=(true,4)∧
 ∃evs hh k,eI true (bE z) (aJ z)=(evs,hh)∧eI false (bE z) (aJ z)=(evs,withK hh k)∧hh.regs=xT b a:=by
 have e:=h.pick;have hd:hU (bE z) (aJ z) [] 0=(true,4):=by rw [e,yB ps [0,0,0,0] _ _ _ hl];exact h.dis
 refine ⟨hd,?_⟩;obtain ⟨h1,k',h2⟩:=Da (bE z) (bE z) (aJ z) (aJ z).k [] 0 rfl (by rw [e];exact hp) h.good (Hk z) ⟨by rw [h.m1];decide,by rw [h.m2];decide⟩ (by rw [hd]);refine ⟨(eI true (bE z) (aJ z)).1,(eI true (bE z) (aJ z)).2,k',rfl,Prod.ext h1 h2,?_⟩;rw [e,yA ps [0,0,0,0] _ hl];exact h.regs
theorem Dj (b c:Nat) (w:World):(binOp .eql 32 (SL b 8 c) (SN)).run Tryz.prog w=.ok (.bool false) w:=by kernel_rfl
theorem EW (b c:Nat) (zs:List Int) (w:World) (h8:zs.length=8) (hr:RowC w (some (AD b 0)) 8 1 (cW zs)):
 Calls Tryz.prog 22 #[SL b 8 c] w fun e w'=>∃v,e=.returned v∧w'.ownsRow w.heap.size 33 1 v 8 (cW zs)∧Bw w w':=by
 have HR:=hid hr;have qe:=Dj b c;clear hr;go_enter Tryz.func22,Tryz.ntmps22;have F:=bF w #[] 33;have HO:Hid ((w.alloc (Obj.cells #[] 33)).ownsRow w.heap.size 33 1 (SL w.heap.size 0 0) 0 []):=⟨rfl,.inr ⟨w.heap.size,0,#[],rfl,nle,F.1,by simp,by simp⟩⟩;have HR1:=hid (HR.out.keep F.2.2);have n1:=F.2.2;clear F;go_wp2_with (at_builtin;refine me _ rfl (.tmp 5) (.tmp 6) 32 rfl 33 (by kernel_rfl) (VU 0) 1 8 (by kernel_rfl) rfl (by decide) w.heap.size 0 _ [] rfl HO.out b 0 8 c (cW zs) rfl (by omega) HR1.out (by intro u hu;simp only [cW,List.mem_map] at hu;obtain ⟨z,_,rfl⟩:=hu;rfl) (by omega) (by omega) (by have:=n1.size;omega) w.heap.size w n1 nle ?_;intro g5 cp5 v5 o5 n5;have HO5:Hid (v5.ownsRow w.heap.size 33 1 (SL g5 (0+8) cp5) (0+8) ([]++cW zs)):=o5;have HN5:Hid (Bw w v5):=n5;clear o5 n5);go_ret;exact ⟨_,rfl,HO5.out,HN5.out⟩
theorem Bm {w:World} {O X:Nat->Prop} {m:MP} {ov:Value} {h:HartM} {ol:List (Nat × Int)} (k:MW w O X m ov h ol):RowC w (some (AD m.b 0)) 8 1 (cW h.regs):=by
 have hl:=k.regs;refine ⟨by simp [cW,hl],.inr ⟨m.b,0,rfl,k.lt,fun i v hv=>?_⟩⟩;have hi:i<8:=by
  have:=(List.getElem?_eq_some_iff.1 hv).1;simpa [cW,hl] using this
 have hv':v=VU (h.regs[i]?.getD 0):=by
  unfold cW at hv;rw [List.getElem?_map,geg (by omega)] at hv;simp only [Option.map_some,Option.some.injEq] at hv;rw [<-hv,geg (by omega)];rfl
 rw [hv',Nat.zero_add];obtain rfl | rfl | rfl | rfl | rfl | rfl | rfl | rfl:i=0∨i=1∨i=2∨i=3∨i=4∨i=5∨i=6∨i=7:=by omega
 all_goals exact ab k.blk _ rfl
theorem Es (b:Nat) (w:World):(Instr.sliceAt 72 (PT b 0) none none none).run Tryz.prog w=.ok (SL b 8 8) w:=by kernel_rfl
theorem GC:(Tryz.prog.info? 92).map (·.size)=some 2:=by kernel_rfl
section
attribute [local go_sem ↓] Go.wp_at_zero Go.wp_at_succ
theorem AR:∀(es:List EvM) (i j:Nat) (hi:i<es.length),j<4->(jd es)[i*4+j]?=(evC es[i])[j]?
 | e::r,0,j,hi,hj=>by
  simp only [jd,List.getElem_cons_zero,Nat.zero_mul,Nat.zero_add];rw [List.getElem?_append_left (by simp [evC];exact hj)]
 | e::r,i+1,j,hi,hj=>by
  simp only [jd,List.getElem_cons_succ];rw [List.getElem?_append_right (by simp [evC];omega)];have:(i+1)*4+j-(evC e).length=i*4+j:=by simp [evC];omega
  rw [this];exact AR r i j (by simpa using hi) hj
theorem AS {w:World} {b off n:Nat} {es:List EvM} (h:RowC w (some (AD b off)) n 4 (jd es)) (hn:es.length=n) (k:Nat) (x:EvM) (hx:es[k]?=some x) (j:Nat) (v:Value) (hj:j<4) (hv:(evC x)[j]?=some v):
 w.cell? ⟨b,off+(k*4+j),none⟩=some v:=by
 have hk:=(List.getElem?_eq_some_iff.1 hx).1;rcases h.2 with h0 | ⟨b',off',e,_,hc⟩
 ·omega
 ·simp at e;obtain ⟨rfl,rfl⟩:=e;refine hc _ _ ?_;rw [AR es k j hk hj];rw [geg hk] at hx;simp at hx;rw [hx];exact hv
end
section
attribute [local go_sem ↓] Go.wp_at_zero Go.wp_at_succ
structure RsR (w:World) (ea:Option Addr) (q:PtrM) (evs:List EvM) (h:HartM):Prop where
 ev:RowC w ea evs.length 4 (jd evs)
 mem:Byt w q.am h.mem.length h.mem
 regs:RowC w q.ar h.regs.length 1 (cW h.regs)
theorem RsR.keep {w w':World} {ea:Option Addr} {q:PtrM} {evs:List EvM} {h:HartM} (k:RsR w ea q evs h) (hb:Bw w w'):RsR w' ea q evs h:=⟨k.ev.keep hb,k.mem.keep hb,k.regs.keep hb⟩
structure RsB (evs:List EvM) (h:HartM):Prop where
 e:evs.length<=1048576
 m:h.mem.length<=1048576
 r:h.regs.length<=1048576
structure RsO (base:Nat) (w:World) (ge ec:Nat) (q:PtrM) (evs:List EvM) (h:HartM) (ce cm cr:List Value):Prop where
 ev:w.ownsRow base 97 4 (SL ge evs.length ec) evs.length ce
 mem:w.ownsRow base 5 1 (.slice q.am h.mem.length q.cm) h.mem.length cm
 regs:w.ownsRow base 33 1 (.slice q.ar h.regs.length q.cr) h.regs.length cr
abbrev RsW (base:Nat) (w:World) (ge ec:Nat) (q:PtrM) (evs:List EvM) (h:HartM):Prop:=RsO base w ge ec q evs h (jd evs) (eh h.mem) (cW h.regs)
def FU (ge ec:Nat) (q:PtrM) (evs:List EvM) (h:HartM) (g:Nat):Prop:=(SL ge evs.length ec).ownBlock=some g∨(Value.slice q.am h.mem.length q.cm).ownBlock=some g∨(Value.slice q.ar h.regs.length q.cr).ownBlock=some g
theorem RsO.keep {base:Nat} {w w':World} {ge ec:Nat} {q:PtrM} {evs:List EvM} {h:HartM} {ce cm cr:List Value} (k:RsO base w ge ec q evs h ce cm cr) (hb:Bw w w'):RsO base w' ge ec q evs h ce cm cr:=⟨aq k.ev hb,aq k.mem hb,aq k.regs hb⟩
theorem RsO.gb {base r:Nat} {w w':World} {ge ec:Nat} {q:PtrM} {evs:List EvM} {h:HartM} {ce cm cr:List Value} (k:RsO base w ge ec q evs h ce cm cr) (hg:w.grownBy w' (some r)) (hr:r<base):RsO base w' ge ec q evs h ce cm cr:=⟨aE k.ev hg hr,aE k.mem hg hr,aE k.regs hg hr⟩
theorem RsO.low {base:Nat} {w:World} {ge ec:Nat} {q:PtrM} {evs:List EvM} {h:HartM} {ce cm cr:List Value} (k:RsO base w ge ec q evs h ce cm cr):∀g,FU ge ec q evs h g->base<=g∧g<w.heap.size:=by
 rintro g (h1 | h1 | h1)
 ·exact k.ev.lt g h1
 ·exact k.mem.lt g h1
 ·exact k.regs.lt g h1
theorem RsO.read {base:Nat} {w:World} {ge ec:Nat} {q:PtrM} {evs:List EvM} {h:HartM} (k:RsW base w ge ec q evs h) (hz:∀i:Nat,0<=h.mem[i]?.getD 0∧h.mem[i]?.getD 0<=255):RsR w (some (AD ge 0)) q evs h:=by
 refine ⟨eC k.ev,?_,eC k.regs⟩;rcases pL k.mem with ⟨h1,h2,_⟩ | ⟨g,cap,h1⟩
 ·exact ⟨rfl,hz,.inl h2⟩
 ·have hm:=k.mem;rw [h1] at hm;have hx:q.am=some (AD g 0):=by
   simp only [Value.slice.injEq] at h1;exact h1.1
  rw [hx];refine ⟨rfl,hz,.inr ⟨g,0,rfl,(cQ hm).2.2,fun i hi=>?_⟩⟩;have:=aQ hm i (.int .u8 (h.mem[i]?.getD 0)) (by simp [eh,hi]);simpa using this
theorem RsO.box_ne {base pb:Nat} {w:World} {ge ec:Nat} {q:PtrM} {evs:List EvM} {h:HartM} {ce cm cr:List Value} {T:TypeId} {cur:Array Value} {z:Nat × Nat} (k:RsO base w ge ec q evs h ce cm cr) (hp:w.heap[pb]?=some (.cells cur T z)) (t1:T≠97) (t2:T≠5) (t3:T≠33):¬FU ge ec q evs h pb:=by
 rintro (h1 | h1 | h1)
 ·exact bY k.ev hp t1 h1
 ·exact bY k.mem hp t2 h1
 ·exact bY k.regs hp t3 h1
end
end Go.Proofs.YthdgiakgepmabaaGreat
