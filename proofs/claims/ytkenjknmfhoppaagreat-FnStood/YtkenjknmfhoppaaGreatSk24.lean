import Derived.Test.YtkenjknmfhoppaaGreatSk23
namespace Go.Proofs.YtkenjknmfhoppaaGreat
open Go.RowKit
set_option linter.unusedVariables false
set_option maxHeartbeats 6400000
set_option maxRecDepth 20000
structure DP where
 run:Nat->List Int->List (List Int)->List Int × Nat
def dr {α:Type} (X:Nat->α × Nat) (K:α->DP):DP:=⟨fun k zs rs=>(K (X k).1).run (X k).2 zs rs⟩
def pu (ys:List Int) (K:DP):DP:=⟨fun k zs rs=>K.run k (zs++ys) rs⟩
def ro (r:List Int) (K:DP):DP:=⟨fun k zs rs=>K.run k zs (rs++[r])⟩
def nw (K:DP):DP:=⟨fun k zs _=>K.run k zs []⟩
def ct (j:Nat) (K:DP):DP:=⟨fun k zs rs=>K.run k (zs++(rs.drop j).flatten) rs⟩
def en:DP:=⟨fun k zs _=>(zs,k)⟩
def wh (n:Nat) (K:DP):DP:=⟨fun k zs rs=>if zs.length<n then K.run k zs rs else (zs,k)⟩
abbrev cd {α:Type} (o:Bool) (A B:α):α:=Bool.casesOn (motive:=fun _=>α) o B A
theorem DL {α:Type} {X:Nat->α × Nat} {K:α->DP} {k k':Nat} {x:α} {zs:List Int} {rs:List (List Int)} (e:X k=(x,k')):(K x).run k' zs rs=(dr X K).run k zs rs:=by simp only [dr,e]
structure Gtb (p:Nat) (f:Nat->Int) (S:DP->World->Prop):Prop where
 cur:∀{P v},S P v->∃k,CurN v p f k
 draw:∀{α:Type} {X:Nat->α × Nat} {K v},S (dr X K) v->∃k,CurN v p f k∧∀x k' v',X k=(x,k')->DrewN v p f k' v'->S (K x) v'
 keep:∀{P v v'},S P v->Below v.heap.size v v'->S P v'
abbrev By (v:World) (g n:Nat) (ys:List Int):Prop:=Byt v (some (AD g 0)) n ys
section
variable {p:Nat} {f:Nat->Int} {S:DP->World->Prop} {v:World} {n:Int} {K:Int->DP} {P:DP}
theorem Gtb.bl (T:Gtb p f S) (s:S (dr (bT f n) K) v) (h:1<=n∧n<=16777216):Calls Tryz.prog 65 #[PT p 0,VI n] v fun e w'=>∃x,e=.returned (VI x)∧(0<=x∧x<n)∧S (K x) w':=by
 obtain ⟨k,c,d⟩:=T.draw s;exact (gv p f k n v c h.1 h.2).mono fun e v ⟨x,k',e1,hx,h1,h2⟩=>⟨x,h1,hx,d x k' v e1 h2⟩
theorem Gtb.on {K:Bool->DP} (T:Gtb p f S) (s:S (dr (eu f n) K) v) (h:1<=n∧n<=16777216):Calls Tryz.prog 64 #[PT p 0,VI n] v fun e w'=>∃x,e=.returned (.bool x)∧S (K x) w':=by
 obtain ⟨k,c,d⟩:=T.draw s;exact (ij p f k n v c h.1 h.2).mono fun e v ⟨x,k',e1,h1,h2⟩=>⟨x,h1,d x k' v e1 h2⟩
theorem Gtb.fl (T:Gtb p f S) (u:Bool) (s:S (dr (fS f u) K) v):Calls Tryz.prog 100 #[PT p 0,.bool u] v fun e w'=>∃x,e=.returned (VU x)∧(0<=x∧x<=255)∧S (K x) w':=by
 obtain ⟨k,c,d⟩:=T.draw s;exact (mG p f k u v c).mono fun e v ⟨x,k',e1,hx,h1,h2⟩=>⟨x,h1,hx,d x k' v e1 h2⟩
theorem Gtb.an (T:Gtb p f S) (s:S (dr (ve f) K) v):Calls Tryz.prog 101 #[PT p 0] v fun e w'=>∃x,e=.returned (VU x)∧(0<=x∧x<=18446744073709551615)∧S (K x) w':=by
 obtain ⟨k,c,d⟩:=T.draw s;exact (DR p f k v c).mono fun e v ⟨x,k',e1,hx,h1,h2⟩=>⟨x,h1,hx,d x k' v e1 h2⟩
theorem Gtb.va (T:Gtb p f S) (s:S (dr (vaX f) K) v):Calls Tryz.prog 98 #[PT p 0] v fun e w'=>∃x,e=.returned (VU x)∧(0<=x∧x<=18446744073709551615)∧S (K x) w':=by
 obtain ⟨k,c,d⟩:=T.draw s;exact (Fc p f k v c).mono fun e v ⟨x,k',e1,hx,h1,h2⟩=>⟨x,h1,hx,d x k' v e1 h2⟩
theorem Gtb.pt (T:Gtb p f S) (s:S (dr (vl f n) K) v) (h:0<=n∧n<=1000):Calls Tryz.prog 105 #[PT p 0,VI n] v fun e w'=>∃x,e=.returned (VU x)∧(0<=x∧x<=2000000)∧S (K x) w':=by
 obtain ⟨k,c,d⟩:=T.draw s;exact (DV p f k n v c h.1 h.2).mono fun e v ⟨x,k',e1,hx,h1,h2⟩=>⟨x,h1,hx,d x k' v e1 h2⟩
theorem Gtb.bt (T:Gtb p f S) (s:S P v) (m:Nat) (h:m<=8∧0<=n∧n<=18446744073709551615):Calls Tryz.prog 97 #[VU n,VI m] v fun e w'=>∃g c,e=.returned (SL g m c)∧By w' g m (cL n m)∧S P w':=
 (ms m n v h.1 h.2.1 h.2.2).mono fun e w' ⟨g,c,h1,o,b⟩=>⟨g,c,h1,o.byt (df (kL m n)),T.keep s b⟩
theorem Gtb.ins (T:Gtb p f S) (s:S P v) {op a b c i:Int} (h:(0<=op∧op<=255)∧(0<=a∧a<=7)∧(0<=b∧b<=7)∧(0<=c∧c<=255)):Calls Tryz.prog 102 #[VI op,VI a,VI b,VI c,VI i] v fun e w'=>∃g,e=.returned (SL g 4 4)∧By w' g 4 (gW op a b c i)∧S P w':=
 (rS op a b c i v h.1 h.2.1 h.2.2.1 h.2.2.2).mono fun e w' ⟨g,h1,o,b⟩=>⟨g,h1,o.byt (we h.1 h.2.1 h.2.2.1 h.2.2.2),T.keep s b⟩
end
theorem wB {a r:Int} {v:World} (h:(0<=a∧a<=100)∧0<=r∧r<=100):Calls Tryz.prog 99 #[VI a,VI r] v fun e w'=>e=.returned (VU (rR a r))∧(0<=rR a r∧rR a r<=18446744073709551615)∧w'=v:=
 (AK a r v (by omega) (by omega) (by omega) (by omega)).mono fun e w' ⟨h1,h2⟩=>⟨h1,by rw [rR];omega,h2⟩
theorem kG (v:World) (o:Obj):Below v.heap.size v (v.alloc o):=(brf).alloc (Nat.le_refl _) o
theorem EZ (v:World) (z:Int) (h:0<=z∧z<=255):By (v.alloc (.cells #[.int .u8 z] 5)) v.heap.size 1 [z]:=uZ v _ z h
theorem Gi (v:World) (y z:Int) (h:(0<=y∧y<=255)∧0<=z∧z<=255):By (v.alloc (.cells #[.int .u8 y,.int .u8 z] 5)) v.heap.size 2 [y,z]:=(OwnB.new 5 v [y,z] 2 rfl (by decide)).byt (Ft h.1 h.2)
def Dg (w:World) (p:Nat) (f:Nat->Int) (T:List Int × Nat) (P:DP) (v:World):Prop:=p<w.heap.size∧∃k,DrewN w p f k v∧P.run k [] []=T
def Sg (w:World) (p:Nat) (f:Nat->Int) (T:List Int × Nat) (g n cp:Nat) (P:DP) (v:World):Prop:=p<w.heap.size∧∃k zs,OutS w p f k v g n cp zs∧∃rs,P.run k zs rs=T
def Rg (w:World) (p:Nat) (f:Nat->Int) (T:List Int × Nat) (g n cp gR m cR:Nat) (P:DP) (v:World):Prop:=p<w.heap.size∧∃k zs rs,ScS w p f k v g n cp zs gR m cR rs∧P.run k zs rs=T
def Og (w:World) (g n cp:Nat) (zs:List Int) (v:World):Prop:=OwnB 5 v w.heap.size g n cp zs∧∀i:Nat,0<=zs[i]?.getD 0∧zs[i]?.getD 0<=255
def Ng (w:World) (g ge l ce:Nat) (r:List Int) (v:World):Prop:=r.length=l∧OwnB 5 v w.heap.size ge l ce r∧ge≠g∧(∀i:Nat,0<=r[i]?.getD 0∧r[i]?.getD 0<=255)∧l<=300∧1<=l
section
variable {w v:World} {p:Nat} {f:Nat->Int} {g n cp gR m cR gi l c:Nat} {T:List Int × Nat} {P:DP} {zs ys:List Int}
theorem Fa:Gtb p f (Dg w p f T):=⟨fun ⟨_,k,d,_⟩=>⟨k,d.1⟩,fun ⟨h,k,d,t⟩=>⟨k,d.1,fun x k' v' e d'=>⟨h,k',d.trans d',(DL e).trans t⟩⟩,fun ⟨h,k,d,t⟩ b=>⟨h,k,d.below (b.mono d.2.size) h,t⟩⟩
theorem bE:Gtb p f (Sg w p f T g n cp):=⟨fun ⟨_,k,_,s,_⟩=>⟨k,s.d.1⟩,fun ⟨h,k,zs,s,rs,t⟩=>⟨k,s.d.1,fun x k' v' e d'=>⟨h,k',zs,s.draw h d',rs,(DL e).trans t⟩⟩,fun ⟨h,k,zs,s,t⟩ b=>⟨h,k,zs,s.below h b,t⟩⟩
theorem fL:Gtb p f (Rg w p f T g n cp gR m cR):=⟨fun ⟨_,k,_,_,s,_⟩=>⟨k,s.s.d.1⟩,fun ⟨h,k,zs,rs,s,t⟩=>⟨k,s.s.d.1,fun x k' v' e d'=>⟨h,k',zs,rs,s.draw h d',(DL e).trans t⟩⟩,fun ⟨h,k,zs,rs,s,t⟩ b=>⟨h,k,zs,rs,s.below h b,t⟩⟩
theorem Gj:Gtb p f (fun P v=>Rg w p f T g n cp gR m cR P v∧Og w gi l c ys v):=⟨fun h=>fL.cur h.1,fun ⟨h,o,b⟩=>by
 obtain ⟨k,h1,h2⟩:=fL.draw h;exact ⟨k,h1,fun x k' v' e d=>⟨h2 x k' v' e d,o.gb d.2 (by have:=o.facts.2.1;have:=h.1;omega),b⟩⟩,fun ⟨h,o,b⟩ k=>⟨fL.keep h k,o.keep k o.facts.2.2.1,b⟩⟩
theorem Og.byv (h:Og w g n cp zs v):By v g n zs:=h.1.byt h.2
theorem Dg.new (h:Dg w p f T P v):Sg w p f T v.heap.size 0 0 P (v.alloc (.cells #[] 5)):=by
 obtain ⟨h,k,d,t⟩:=h;exact ⟨h,k,[],⟨d.below ((brf).alloc d.2.size _) h,(OwnB.new 5 v [] 0 rfl (by decide)).low d.2.size,rfl,fun i=>by simp⟩,[],t⟩
theorem Sg.new (h:Sg w p f T g n cp (nw P) v):Rg w p f T g n cp v.heap.size 0 0 P (v.alloc (.cells #[] 22)):=by
 obtain ⟨h,k,zs,s,rs,t⟩:=h;exact ⟨h,k,zs,[],⟨s.below h (kG _ _),⟨[],(OwnC.new 22 1 v [] 0 rfl (by decide)).low s.d.2.size,rfl,fun i r hi=>by simp at hi⟩,rfl⟩,t⟩
theorem Rg.toS (h:Rg w p f T g n cp gR m cR P v):Sg w p f T g n cp P v:=by
 obtain ⟨h,k,zs,rs,s,t⟩:=h;exact ⟨h,k,zs,s.s,rs,t⟩
theorem Rg.pte (s:Rg w p f T g n cp gR m cR P v) {a b x:Int} (h:(0<=a∧a<=63)∧(0<=b∧b<=7)∧0<=x∧x<=18446744073709551615):Calls Tryz.prog 104 #[VI a,VI b,VU x] v fun e w'=>∃ge ce,e=.returned (SL ge 11 ce)∧Ng w g ge 11 ce (kK a b x) w'∧Rg w p f T g n cp gR m cR P w':=
 (tK a b x v h.1 h.2.1 h.2.2).mono fun e w' ⟨ge,ce,h1,o,k⟩=>by
  have s':=fL.keep s k;obtain ⟨_,_,_,_,s,_⟩:=s;have h2:=s.s.o.facts.2.2.1;have h3:=o.facts.2.1;exact ⟨ge,ce,h1,⟨Df _ _ _,o.low s.s.d.2.size,by omega,Ev h.1 h.2.1 h.2.2,by omega,by omega⟩,s'⟩
theorem Rg.run1 (s:Rg w p f T g n cp gR m cR P v) (y:By v gi l ys) {a:Int} (h:l<=255∧0<=a∧a<=65535):Calls Tryz.prog 103 #[VI a,SL gi l c] v fun e w'=>∃ge ce,e=.returned (SL ge (3+l) ce)∧Ng w g ge (3+l) ce (kc a ys) w'∧Rg w p f T g n cp gR m cR P w':=by
 refine (uf a gi 0 l c ys v y h.1 h.2.1 h.2.2).mono ?_;rintro e w' ⟨ge,ce,h1,o,k⟩;have s':=fL.keep s k;obtain ⟨_,_,_,_,s,_⟩:=s;have h2:=s.s.o.facts.2.2.1;have h3:=o.facts.2.1;have h4:=y.1;exact ⟨ge,ce,h1,⟨by rw [uI,h4],o.low s.s.d.2.size,by omega,xY h.2.1 h.2.2 (by omega) y.2.1,by omega,by omega⟩,s'⟩
theorem Rg.ins (s:Rg w p f T g n cp gR m cR P v) {op a b c i:Int} (h:(0<=op∧op<=255)∧(0<=a∧a<=7)∧(0<=b∧b<=7)∧(0<=c∧c<=255)):Calls Tryz.prog 102 #[VI op,VI a,VI b,VI c,VI i] v fun e w'=>∃ge,e=.returned (SL ge 4 4)∧Rg w p f T g n cp gR m cR P w'∧Og w ge 4 4 (gW op a b c i) w':=by
 refine (rS op a b c i v h.1 h.2.1 h.2.2.1 h.2.2.2).mono ?_;rintro e w' ⟨ge,h1,o,k⟩;refine ⟨ge,h1,fL.keep s k,?_,we h.1 h.2.1 h.2.2.1 h.2.2.2⟩;obtain ⟨_,_,_,_,s,_⟩:=s;exact o.low s.s.d.2.size
theorem Rg.prog {v2:World} {K:List Int->DP} {X:Nat->List Int × Nat} (s:Rg w p f T g n cp gR m cR (dr X K) v):∃k,CurN v p f k∧∀T' gi l c v2,X k=T'->Sg v p f T' gi l c en v2->∃ys,Rg w p f T g n cp gR m cR (K ys) v2∧∀q,q<=l->By v2 gi q (ys.take q):=by
 obtain ⟨k,h1,h2⟩:=fL.draw s;refine ⟨k,h1,?_⟩;rintro T' gi l c v2 hX ⟨_,k',zs,o,_,t⟩;exact ⟨zs,h2 zs k' v2 (by rw [hX,<-t];rfl) o.d,fun q hq=>Bu (o.o.byt o.b) hq⟩
theorem Rg.row (s:Rg w p f T g n cp gR m cR (ct l P) v) (hj:l<m):∃ge q ce r,v.cell? (AD gR l)=some (SL ge q ce)∧By v ge q r∧(1<=q∧q<=300)∧gR<v.heap.size∧Rg w p f T g n cp gR m cR (pu r (ct (l+1) P)) v:=by
 obtain ⟨h,k,zs,rs,s,t⟩:=s;obtain ⟨cells,oC,hC,hR⟩:=s.c;have hl:=s.l;have hlt:l<rs.length:=by omega
 obtain ⟨ge,ce,h1,h2,h3,h4,h5,h6⟩:=hR l _ (geg hlt);refine ⟨ge,_,ce,rs[l],by have:=aE oC l _ h1;simpa using this,h2.byt h4,⟨h6,h5⟩,oC.facts.2.2.1,h,k,zs,rs,s,?_⟩;rw [<-t];simp only [pu,ct];rw [List.drop_eq_getElem_cons hlt,List.flatten_cons,List.append_assoc]
theorem Rg.last (s:Rg w p f T g n cp gR m cR (ct m P) v):Rg w p f T g n cp gR m cR P v:=by
 obtain ⟨h,k,zs,rs,s,t⟩:=s;refine ⟨h,k,zs,rs,s,?_⟩;rw [<-t];simp only [ct];rw [List.drop_eq_nil_of_le (by have:=s.l;omega),List.flatten_nil,List.append_nil]
theorem Sg.mem {q:Nat} {K:List Int->DP} (s:Sg w p f T g n cp (dr (nU f q) K) v) (hq:q<=1048576):Calls Tryz.prog 66 #[PT p 0,VI q] v fun e w'=>∃gm cm ys,e=.returned (SL gm q cm)∧By w' gm q ys∧Sg w p f T g n cp (K ys) w':=by
 obtain ⟨k,c,d⟩:=bE.draw s;refine (Af p f k q v c hq).mono fun e w' ⟨gm,cm,h1,o,d'⟩=>⟨gm,cm,_,h1,o.byt (df fun y hy=>?_),d _ _ w' rfl d'⟩;simp only [nU,List.mem_map] at hy;obtain ⟨j,_,rfl⟩:=hy;exact c.bd _
theorem Sg.go {q:Nat} (h:Sg w p f T g n cp (wh q P) v) (hq:n<q):Sg w p f T g n cp P v:=by
 obtain ⟨h,k,zs,o,rs,t⟩:=h;refine ⟨h,k,zs,o,rs,?_⟩;rw [<-t,wh];exact (if_pos (by have:=o.l;omega)).symm
theorem Sg.stop {q:Nat} (h:Sg w p f T g n cp (wh q P) v) (hq:¬n<q):Sg w p f T g n cp en v:=by
 obtain ⟨h,k,zs,o,rs,t⟩:=h;refine ⟨h,k,zs,o,rs,?_⟩;rw [<-t,wh];exact (if_neg (by have:=o.l;omega)).symm
theorem Sg.cap (h:Sg w p f T g n cp P v):n<=cp:=by
 obtain ⟨_,_,_,o,_⟩:=h;exact o.o.facts.2.2.2.1
variable {ops:Array Oper} {rest:List Oper} {o:Oper} {a:Act} {Q:Exit->Act->World->Prop} {y':List Int}
theorem iz (hgd:o.guard=none) (s x:Operand) (ho:o.op=.call { callee:=.builtin .append,args:=#[s,x],argTypes:=#[22,22] }) (hs:a.eval s=SL g n cp) (hx:a.eval x=SL gi l c)
 (S:Sg w p f T g n cp (pu y' P) v) (y:By v gi l ys) (he:y'=ys) (hb:n+l<=2147483648) (h:∀g' cp' w',Sg w p f T g' (n+l) cp' P w'->wpList Tryz.prog ops Q rest (a.put o.dst (SL g' (n+l) cp')) w'):wpList Tryz.prog ops Q (o::rest) a v:=by
 subst he;obtain ⟨hp,k,zs,S,rs,t⟩:=S;refine fk v hgd s x _ ho 5 Tryz.underlying22 Tryz.infoB w.heap.size _ _ _ _ hs S.o gi 0 l c y' hx y hb w.heap.size v brf (Nat.le_refl _) ?_;intro g' cp' x' o' n';exact h g' cp' x' ⟨hp,k,_,S.app hp n' o' y.1 y.2.1,rs,t⟩
theorem uY (hgd:o.guard=none) (s x:Operand) (ho:o.op=.call { callee:=.builtin .append,args:=#[s,x],argTypes:=#[22,22] }) (hs:a.eval s=SL g n cp) (hx:a.eval x=SL gi l c)
 (S:Rg w p f T g n cp gR m cR (pu y' P) v) (y:By v gi l ys) (he:y'=ys) (hb:0<l∧n+l<=2147483648) (h:∀g' cp' w',Rg w p f T g' (n+l) cp' gR m cR P w'->wpList Tryz.prog ops Q rest (a.put o.dst (SL g' (n+l) cp')) w'):wpList Tryz.prog ops Q (o::rest) a v:=by
 subst he;obtain ⟨hp,k,zs,rs,S,t⟩:=S;refine Bz v hgd s x _ ho 5 Tryz.underlying22 Tryz.infoB w.heap.size _ _ _ _ hs S.s.o gi 0 l c y' hx hb.1 y hb.2 S.s.d.2.size ?_;intro g' cp' x' o' n' h';exact h g' cp' x' ⟨hp,k,_,rs,S.out hp n' o' h' y.1 y.2.1,t⟩
theorem kH {ge ce:Nat} (hgd:o.guard=none) (s x:Operand) (ho:o.op=.call { callee:=.builtin .append,args:=#[s,x],argTypes:=#[196,196] }) (hs:a.eval s=SL gR m cR) (hx:a.eval x=SL v.heap.size 1 1)
 (S:Rg w p f T g n cp gR m cR (ro y' P) v) (y:Ng w g ge l ce ys v) (he:y'=ys) (hb:m<=1000) (h:∀g' cp' w',Rg w p f T g n cp g' (m+1) cp' P w'->wpList Tryz.prog ops Q rest (a.put o.dst (SL g' (m+1) cp')) w'):wpList Tryz.prog ops Q (o::rest) a (v.alloc (.cells #[SL ge l ce] 22)):=by
 subst he;obtain ⟨hp,k,zs,rs,S,t⟩:=S;obtain ⟨hr,oe,ne,br,l1,l2⟩:=y;subst hr;have nb:=kG v (.cells #[SL ge y'.length ce] 22);have rw1:RowC (v.alloc (Obj.cells #[SL ge y'.length ce] 22)) (some (AD v.heap.size 0)) 1 1 [SL ge y'.length ce]:=(OwnC.new 22 1 v [SL ge y'.length ce] 1 rfl (by decide)).row;have oe2:=oe.keep nb oe.facts.2.2.1;have S2:=S.below hp nb;obtain ⟨cells,oR,hR⟩:=S2.c;have lR:=oR.facts;refine Bv _ hgd s x _ ho 22 Tryz.underlying196 (SN) 1 24 Tryz.infoSl rfl (by decide) w.heap.size gR m cR cells hs oR v.heap.size 0 1 1 _ hx (by decide) rw1 (by simp [Value.oneCell']) (by omega) (by omega) (by omega) ?_;intro g' c' x' oN gN;exact h g' c' x' ⟨hp,k,zs,_,S2.add (r:=y') hp oR hR gN oN oe2 ne br l1 l2,t⟩
end
end Go.Proofs.YtkenjknmfhoppaaGreat
