import Derived.Test.YtaoaifmkhbgaiaaGreatPk25
import Derived.Deep.CutRange
namespace Go.Proofs.YtaoaifmkhbgaiaaGreat
open Go.RowKit
set_option linter.unusedVariables false
structure Stb (p:Nat) (f:Nat→Int) (S:World→Prop):Prop where
 cur:∀{v},S v→∃k,CurN v p f k
 draw:∀{v v' k},S v→DrewN v p f k v'→S v'
 keep:∀{v v'},S v→Below v.heap.size v v'→S v'
def Byv (v:World) (g n:Nat):Prop:=∃ys,Byt v (some ⟨g,0,none⟩) n ys
section
variable {p:Nat} {f:Nat→Int} {S:World→Prop} {v:World} {n:Int}
theorem Stb.bl (T:Stb p f S) (s:S v) (h:1≤n∧n≤16777216):Calls Tryz.prog 30 #[.pointer (some ⟨p,0,none⟩),.int .i64 n] v fun e w'=>∃x,e=.returned (.int .i64 x)∧(0≤x∧x<n)∧S w':=by
 obtain ⟨k,c⟩:=T.cur s;refine (aX p f k n v c h.1 h.2).mono ?_;rintro e v ⟨x,k', -,hx,rfl,d⟩;exact ⟨x,rfl,hx,T.draw s d⟩
theorem Stb.on (T:Stb p f S) (s:S v) (h:1≤n∧n≤16777216):Calls Tryz.prog 33 #[.pointer (some ⟨p,0,none⟩),.int .i64 n] v fun e w'=>∃x,e=.returned (.bool x)∧S w':=by
 obtain ⟨k,c⟩:=T.cur s;refine (dp p f k n v c h.1 h.2).mono ?_;rintro e v ⟨x,k', -,rfl,d⟩;exact ⟨x,rfl,T.draw s d⟩
theorem Stb.fl (T:Stb p f S) (s:S v) (u:Bool):Calls Tryz.prog 73 #[.pointer (some ⟨p,0,none⟩),.bool u] v fun e w'=>∃x,e=.returned (.int .u64 x)∧(0≤x∧x≤255)∧S w':=by
 obtain ⟨k,c⟩:=T.cur s;refine (iQ p f k u v c).mono ?_;rintro e v ⟨x,k', -,hx,rfl,d⟩;exact ⟨x,rfl,hx,T.draw s d⟩
theorem Stb.an (T:Stb p f S) (s:S v):Calls Tryz.prog 116 #[.pointer (some ⟨p,0,none⟩)] v fun e w'=>∃x,e=.returned (.int .u64 x)∧(0≤x∧x≤18446744073709551615)∧S w':=by
 obtain ⟨k,c⟩:=T.cur s;refine (zW p f k v c).mono ?_;rintro e v ⟨x,k', -,hx,rfl,d⟩;exact ⟨x,rfl,hx,T.draw s d⟩
theorem Stb.va (T:Stb p f S) (s:S v):Calls Tryz.prog 72 #[.pointer (some ⟨p,0,none⟩)] v fun e w'=>∃x,e=.returned (.int .u64 x)∧(0≤x∧x≤18446744073709551615)∧S w':=by
 obtain ⟨k,c⟩:=T.cur s;refine (wC p f k v c).mono ?_;rintro e v ⟨x,k', -,hx,rfl,d⟩;exact ⟨x,rfl,hx,T.draw s d⟩
theorem Stb.pt (T:Stb p f S) (s:S v) (h:0≤n∧n≤1000):Calls Tryz.prog 120 #[.pointer (some ⟨p,0,none⟩),.int .i64 n] v fun e w'=>∃x,e=.returned (.int .u64 x)∧(0≤x∧x≤2000000)∧S w':=by
 obtain ⟨k,c⟩:=T.cur s;refine (zZ p f k n v c h.1 h.2).mono ?_;rintro e v ⟨x,k', -,hx,rfl,d⟩;exact ⟨x,rfl,hx,T.draw s d⟩
theorem Stb.bt (T:Stb p f S) (s:S v) (m:Nat) (h:m≤8∧0≤n∧n≤18446744073709551615):Calls Tryz.prog 85 #[.int .u64 n,.int .i64 m] v fun e w'=>∃g c,e=.returned (.slice (some ⟨g,0,none⟩) m c)∧Byv w' g m∧S w':=
 (jw m n v h.1 h.2.1 h.2.2).mono fun e w' ⟨g,c,h1,o,b⟩=>⟨g,c,h1,⟨_,o.byt (dv (jq m n))⟩,T.keep s b⟩
theorem Stb.ins (T:Stb p f S) (s:S v) {op a b c i:Int} (h:(0≤op∧op≤255)∧(0≤a∧a≤7)∧(0≤b∧b≤7)∧(0≤c∧c≤255)):Calls Tryz.prog 117 #[.int .i64 op,.int .i64 a,.int .i64 b,.int .i64 c,.int .i64 i] v fun e w'=>∃g,e=.returned (.slice (some ⟨g,0,none⟩) 4 4)∧Byv w' g 4∧S w':=
 (qX op a b c i v h.1 h.2.1 h.2.2.1 h.2.2.2).mono fun e w' ⟨g,h1,o,b⟩=>⟨g,h1,⟨_,o.byt (ux h.1 h.2.1 h.2.2.1 h.2.2.2)⟩,T.keep s b⟩
end
theorem t8 {a r:Int} {v:World} (h:(0≤a∧a≤100)∧0≤r∧r≤100):Calls Tryz.prog 31 #[.int .i64 a,.int .i64 r] v fun e w'=>∃x,e=.returned (.int .u64 x)∧(0≤x∧x≤18446744073709551615)∧w'=v:=
 (mn a r v (by omega) (by omega) (by omega) (by omega)).mono fun e w' ⟨h1,h2⟩=>⟨_,h1,by rw [iu];omega,h2⟩
theorem jL (v:World) (o:Obj):Below v.heap.size v (v.alloc o):=(Below.refl _ _).alloc (Nat.le_refl _) o
theorem AA (v:World) (z:Int) (h:0≤z∧z≤255):Byv (v.alloc (.cells #[.int .u8 z] 5)) v.heap.size 1:=⟨_,tT v _ z h⟩
theorem Bc (v:World) (y z:Int) (h:(0≤y∧y≤255)∧0≤z∧z≤255):Byv (v.alloc (.cells #[.int .u8 y,.int .u8 z] 5)) v.heap.size 2:=⟨_,(OwnB.new 5 v [y,z] 2 rfl (by decide)).byt (AQ h.1 h.2)⟩
def Dw (w:World) (p:Nat) (f:Nat→Int) (v:World):Prop:=p<w.heap.size∧∃k,DrewN w p f k v
def Sw (w:World) (p:Nat) (f:Nat→Int) (g n cp:Nat) (v:World):Prop:=p<w.heap.size∧∃k zs,OutS w p f k v g n cp zs
def Rr (w:World) (p:Nat) (f:Nat→Int) (g n cp gR m cR:Nat) (v:World):Prop:=p<w.heap.size∧∃k zs rs,ScS w p f k v g n cp zs gR m cR rs
def Ow (w:World) (p g n cp:Nat) (v:World):Prop:=p<w.heap.size∧∃zs,OwnB 5 v w.heap.size g n cp zs∧∀i:Nat,0≤zs[i]?.getD 0∧zs[i]?.getD 0≤255
def Nr (w:World) (g ge l ce:Nat) (v:World):Prop:=∃r,r.length=l∧OwnB 5 v w.heap.size ge l ce r∧ge≠g∧(∀i:Nat,0≤r[i]?.getD 0∧r[i]?.getD 0≤255)∧l≤300∧1≤l
section
variable {w v:World} {p:Nat} {f:Nat→Int} {g n cp gR m cR gi l c:Nat}
theorem AB:Stb p f (Dw w p f):=⟨fun ⟨_,k,d⟩=>⟨k,d.1⟩,fun ⟨h,_,d⟩ d'=>⟨h,_,d.trans d'⟩,fun ⟨h,k,d⟩ b=>⟨h,k,d.below (b.mono d.2.size) h⟩⟩
theorem bH:Stb p f (Sw w p f g n cp):=⟨fun ⟨_,k,_,s⟩=>⟨k,s.d.1⟩,fun ⟨h,_,zs,s⟩ d=>⟨h,_,zs,s.draw h d⟩,fun ⟨h,k,zs,s⟩ b=>⟨h,k,zs,s.below h b⟩⟩
theorem fy:Stb p f (Rr w p f g n cp gR m cR):=⟨fun ⟨_,k,_,_,s⟩=>⟨k,s.s.d.1⟩,fun ⟨h,_,zs,rs,s⟩ d=>⟨h,_,zs,rs,s.draw h d⟩,fun ⟨h,k,zs,rs,s⟩ b=>⟨h,k,zs,rs,s.below h b⟩⟩
theorem Bd:Stb p f (fun v=>Rr w p f g n cp gR m cR v∧Ow w p gi l c v):=⟨fun h=>fy.cur h.1,fun ⟨h,h1,zs,o,b⟩ d=>⟨fy.draw h d,h1,zs,o.gb d.2 (by have:=o.facts.2.1;omega),b⟩,fun ⟨h,h1,zs,o,b⟩ k=>⟨fy.keep h k,h1,zs,o.keep k o.facts.2.2.1,b⟩⟩
theorem Ow.byv (h:Ow w p g n cp v):Byv v g n:=by
 obtain ⟨_,zs,o,b⟩:=h;exact ⟨zs,o.byt b⟩
theorem Dw.new (h:Dw w p f v):Sw w p f v.heap.size 0 0 (v.alloc (.cells #[] 5)):=by
 obtain ⟨h,k,d⟩:=h;exact ⟨h,k,[],d.below ((Below.refl _ _).alloc d.2.size _) h,(OwnB.new 5 v [] 0 rfl (by decide)).low d.2.size,rfl,fun i=>by simp⟩
theorem Sw.new (h:Sw w p f g n cp v):Rr w p f g n cp v.heap.size 0 0 (v.alloc (.cells #[] 22)):=by
 obtain ⟨h,k,zs,s⟩:=h;exact ⟨h,k,zs,[],s.below h (jL _ _),⟨[],(OwnC.new 22 1 v [] 0 rfl (by decide)).low s.d.2.size,rfl,fun i r hi=>by simp at hi⟩,rfl⟩
theorem Rr.toS (h:Rr w p f g n cp gR m cR v):Sw w p f g n cp v:=by
 obtain ⟨h,k,zs,_,s⟩:=h;exact ⟨h,k,zs,s.s⟩
theorem Rr.pte (s:Rr w p f g n cp gR m cR v) {a b x:Int} (h:(0≤a∧a≤63)∧(0≤b∧b≤7)∧0≤x∧x≤18446744073709551615):Calls Tryz.prog 119 #[.int .i64 a,.int .i64 b,.int .u64 x] v fun e w'=>∃ge ce,e=.returned (.slice (some ⟨ge,0,none⟩) 11 ce)∧Nr w g ge 11 ce w'∧Rr w p f g n cp gR m cR w':=
 (sF a b x v h.1 h.2.1 h.2.2).mono fun e w' ⟨ge,ce,h1,o,k⟩=>by
  have s':=fy.keep s k;obtain ⟨_,_,_,_,s⟩:=s;have h2:=s.s.o.facts.2.2.1;have h3:=o.facts.2.1;exact ⟨ge,ce,h1,⟨_,zy _ _ _,o.low s.s.d.2.size,by omega,Ao h.1 h.2.1 h.2.2,by omega,by omega⟩,s'⟩
theorem Rr.run1 (s:Rr w p f g n cp gR m cR v) (y:Byv v gi l) {a:Int} (h:l≤255∧0≤a∧a≤65535):Calls Tryz.prog 118 #[.int .i64 a,.slice (some ⟨gi,0,none⟩) l c] v fun e w'=>∃ge ce,e=.returned (.slice (some ⟨ge,0,none⟩) (3+l) ce)∧Nr w g ge (3+l) ce w'∧Rr w p f g n cp gR m cR w':=by
 obtain ⟨ys,y⟩:=y;refine (sU a gi 0 l c ys v y h.1 h.2.1 h.2.2).mono ?_;rintro e w' ⟨ge,ce,h1,o,k⟩;have s':=fy.keep s k;obtain ⟨_,_,_,_,s⟩:=s;have h2:=s.s.o.facts.2.2.1;have h3:=o.facts.2.1;have h4:=y.1;exact ⟨ge,ce,h1,⟨_,by rw [tE,h4],o.low s.s.d.2.size,by omega,vn h.2.1 h.2.2 (by omega) y.2.1,by omega,by omega⟩,s'⟩
theorem Rr.ins (s:Rr w p f g n cp gR m cR v) {op a b c i:Int} (h:(0≤op∧op≤255)∧(0≤a∧a≤7)∧(0≤b∧b≤7)∧(0≤c∧c≤255)):Calls Tryz.prog 117 #[.int .i64 op,.int .i64 a,.int .i64 b,.int .i64 c,.int .i64 i] v fun e w'=>∃ge,e=.returned (.slice (some ⟨ge,0,none⟩) 4 4)∧Rr w p f g n cp gR m cR w'∧Ow w p ge 4 4 w':=by
 have hp:=s.1;refine (qX op a b c i v h.1 h.2.1 h.2.2.1 h.2.2.2).mono ?_;rintro e w' ⟨ge,h1,o,k⟩;refine ⟨ge,h1,fy.keep s k,hp,wH op a b c i,?_,ux h.1 h.2.1 h.2.2.1 h.2.2.2⟩;obtain ⟨_,_,_,_,s⟩:=s;exact o.low s.s.d.2.size
theorem Rr.dw (s:Rr w p f g n cp gR m cR v):Dw v p f v:=by
 obtain ⟨_,k,_,_,s⟩:=s;exact ⟨s.s.d.1.lt,k,DrewN.refl s.s.d.1⟩
theorem Rr.prog {v2:World} (s:Rr w p f g n cp gR m cR v) (o:Sw v p f gi l c v2):Rr w p f g n cp gR m cR v2∧∀q,q≤l→Byv v2 gi q:=by
 obtain ⟨_,k,zs,o⟩:=o;exact ⟨fy.draw s o.d,fun q hq=>⟨_,yE (o.o.byt o.b) hq⟩⟩
theorem Rr.row (s:Rr w p f g n cp gR m cR v) {j:Nat} (hj:j<m):∃ge q ce,v.cell? ⟨gR,j,none⟩=some (.slice (some ⟨ge,0,none⟩) q ce)∧Byv v ge q∧(1≤q∧q≤300)∧gR<v.heap.size:=by
 obtain ⟨_,_,_,rs,s⟩:=s;obtain ⟨cells,oC,hC,hR⟩:=s.c;have hl:=s.l;obtain ⟨ge,ce,h1,h2,h3,h4,h5,h6⟩:=hR j _ (List.getElem?_eq_getElem (show j<rs.length by omega));exact ⟨ge,_,ce,by have:=aI oC j _ h1;simpa using this,⟨_,h2.byt h4⟩,⟨h6,h5⟩,oC.facts.2.2.1⟩
theorem Sw.mem (s:Sw w p f g n cp v) {q:Nat} (hq:q≤1048576):Calls Tryz.prog 122 #[.pointer (some ⟨p,0,none⟩),.int .i64 q] v fun e w'=>∃gm cm,e=.returned (.slice (some ⟨gm,0,none⟩) q cm)∧Byv w' gm q∧Sw w p f g n cp w':=by
 obtain ⟨k,c⟩:=bH.cur s;refine (Al p f k q v c hq).mono fun e w' ⟨gm,cm,h1,o,d⟩=>⟨gm,cm,h1,⟨_,o.byt (dv fun y hy=>?_)⟩,bH.draw s d⟩;simp only [uc,List.mem_map] at hy;obtain ⟨j,_,rfl⟩:=hy;exact c.bd _
variable {ops:Array Oper} {rest:List Oper} {o:Oper} {a:Act} {Q:Exit→Act→World→Prop}
theorem gV (hgd:o.guard=none) (s x:Operand) (ho:o.op=.call { callee:=.builtin .append,args:=#[s,x],argTypes:=#[22,22] }) (hs:a.eval s=.slice (some ⟨g,0,none⟩) n cp) (hx:a.eval x=.slice (some ⟨gi,0,none⟩) l c)
 (S:Sw w p f g n cp v) (y:Byv v gi l) (hb:n+l≤2147483648) (h:∀g' cp' w',Sw w p f g' (n+l) cp' w'→wpList Tryz.prog ops Q rest (a.put o.dst (.slice (some ⟨g',0,none⟩) (n+l) cp')) w'):wpList Tryz.prog ops Q (o::rest) a v:=by
 obtain ⟨hp,k,zs,S⟩:=S;obtain ⟨ys,y⟩:=y;refine eJ v hgd s x _ ho 5 Tryz.underlying22 Tryz.infoB w.heap.size _ _ _ _ hs S.o gi 0 l c ys hx y hb w.heap.size v (Below.refl _ _) (Nat.le_refl _) ?_;intro g' cp' x' o' n';exact h g' cp' x' ⟨hp,k,_,S.app hp n' o' y.1 y.2.1⟩
theorem uQ (hgd:o.guard=none) (s x:Operand) (ho:o.op=.call { callee:=.builtin .append,args:=#[s,x],argTypes:=#[22,22] }) (hs:a.eval s=.slice (some ⟨g,0,none⟩) n cp) (hx:a.eval x=.slice (some ⟨gi,0,none⟩) l c)
 (S:Rr w p f g n cp gR m cR v) (y:Byv v gi l) (hb:0<l∧n+l≤2147483648) (h:∀g' cp' w',Rr w p f g' (n+l) cp' gR m cR w'→wpList Tryz.prog ops Q rest (a.put o.dst (.slice (some ⟨g',0,none⟩) (n+l) cp')) w'):wpList Tryz.prog ops Q (o::rest) a v:=by
 obtain ⟨hp,k,zs,rs,S⟩:=S;obtain ⟨ys,y⟩:=y;refine yG v hgd s x _ ho 5 Tryz.underlying22 Tryz.infoB w.heap.size _ _ _ _ hs S.s.o gi 0 l c ys hx hb.1 y hb.2 S.s.d.2.size ?_;intro g' cp' x' o' n' h';exact h g' cp' x' ⟨hp,k,_,rs,S.out hp n' o' h' y.1 y.2.1⟩
theorem jM {ge ce:Nat} (hgd:o.guard=none) (s x:Operand) (ho:o.op=.call { callee:=.builtin .append,args:=#[s,x],argTypes:=#[190,190] }) (hs:a.eval s=.slice (some ⟨gR,0,none⟩) m cR) (hx:a.eval x=.slice (some ⟨v.heap.size,0,none⟩) 1 1)
 (S:Rr w p f g n cp gR m cR v) (y:Nr w g ge l ce v) (hb:m≤1000) (h:∀g' cp' w',Rr w p f g n cp g' (m+1) cp' w'→wpList Tryz.prog ops Q rest (a.put o.dst (.slice (some ⟨g',0,none⟩) (m+1) cp')) w'):wpList Tryz.prog ops Q (o::rest) a (v.alloc (.cells #[.slice (some ⟨ge,0,none⟩) l ce] 22)):=by
 obtain ⟨hp,k,zs,rs,S⟩:=S;obtain ⟨r,hr,oe,ne,br,l1,l2⟩:=y;subst hr;have nb:=jL v (.cells #[.slice (some ⟨ge,0,none⟩) r.length ce] 22);have rw1:RowC (v.alloc (Obj.cells #[Value.slice (some ⟨ge,0,none⟩) r.length ce] 22)) (some ⟨v.heap.size,0,none⟩) 1 1 [Value.slice (some ⟨ge,0,none⟩) r.length ce]:=(OwnC.new 22 1 v [Value.slice (some ⟨ge,0,none⟩) r.length ce] 1 rfl (by decide)).row;have oe2:=oe.keep nb oe.facts.2.2.1;have S2:=S.below hp nb;obtain ⟨cells,oR,hR⟩:=S2.c;have lR:=oR.facts;refine yF _ hgd s x _ ho 22 Tryz.underlying190 (.slice none 0 0) 1 24 Tryz.infoSl rfl (by decide) w.heap.size gR m cR cells hs oR v.heap.size 0 1 1 _ hx (by decide) rw1 (by simp [Value.oneCell']) (by omega) (by omega) (by omega) ?_;intro g' c' x' oN gN;exact h g' c' x' ⟨hp,k,zs,_,S2.add (r:=r) hp oR hR gN oN oe2 ne br l1 l2⟩
end
end Go.Proofs.YtaoaifmkhbgaiaaGreat

namespace Go.Proofs.YtaoaifmkhbgaiaaGreat
open Go.RowKit
set_option linter.unusedVariables false
theorem ua {b:Int} (h:1≤b∧b≤6) (x:Int):0≤b*bits .and .i64 x 1∧b*bits .and .i64 x 1≤6:=by
 have:=kc x 1 (by omega) (by omega);rcases (show bits .and .i64 x 1=0∨bits .and .i64 x 1=1 by omega) with e | e <;> rw [e] <;> omega
set_option maxRecDepth 20000 in
set_option maxHeartbeats 6400000 in
theorem uR (p:Nat) (f:Nat→Int) (n:Nat) (careful:Bool) (w:World) (h:Dw w p f w) (hn:n≤1000):
 Calls Tryz.prog 121 #[.pointer (some ⟨p,0,none⟩),.int .i64 n,.bool careful] w fun e w'=>
  ∃g nn cp,4*n≤nn∧e=.returned (.slice (some ⟨g,0,none⟩) nn cp)∧Sw w p f g nn cp w':=by
 have S0:=h.new;clear h;go_enter Tryz.func121,Tryz.ntmps121;go_wp2_with fail;go_loopw [7] (fun vv wr=>∃g nn cp,vv=.slice (some ⟨g,0,none⟩) nn cp∧Sw w p f g nn cp wr∧nn≤4*n+8) (fun vv _=>4*n+8-lenOf vv)
 case atStart=>exact ⟨_,0,_,rfl,S0,by omega⟩
 case round=>
  clear S0;obtain ⟨g,nn,cp,rfl,S,hl⟩:=hrel;by_cases hlt:nn<4*n
  ·have hlt':decide ((nn:Int)<4*(n:Int))=true:=by simp;omega
   go_wp2_with fail;refine (bH.bl S (by omega)).mono ?_;clear S;rintro _ _ ⟨c,rfl,hc,S⟩;go_wp2_with fail;refine (bH.bl S (by omega)).mono ?_;clear S;rintro _ _ ⟨at',rfl,hat,S⟩;go_wp2_with fail;refine (bH.on S (by omega)).mono ?_;clear S;rintro _ _ ⟨s,rfl,S⟩;go_upto_if 30 with fail;go_cut [10] from 30 to 30 (fun s wx=>∃b,s=.int .i64 b∧(1≤b∧b≤6)∧Sw w p f g nn cp wx)
   case first=>cases s <;> (go_wp2_with fail;go_meet;case rel=>exact ⟨_,rfl,by omega,S⟩)
   case rest=>
   clear S;obtain ⟨b,rfl,hb,S⟩:=hcut;have hb1:=ua hb at';rcases (show c<5∨(5≤c∧c<7)∨((7≤c∧c<11)∧careful=true)∨((7≤c∧c<11)∧careful=false)∨c=11∨c=12∨c=13∨c=14∨c=15∨c=16∨(c=17∧at'=7)∨(c=17∧¬at'=7)∨c=18∨(c=19∧careful=true)∨(c=19∧careful=false) by cases careful <;> simp <;> omega) with q | q | ⟨q,rfl⟩ | ⟨q,rfl⟩ | q | q | q | q | q | q | q | q | q | ⟨q,rfl⟩ | ⟨q,rfl⟩;all_goals
    as_aux_lemma=>
     go_wp2_with (first
      | (at_builtin;refine gV rfl _ _ rfl rfl rfl S Y (by omega) ?_;clear S Y;intro _ _ _ S)
      | (go_at_call 30;refine (bH.bl S (by omega)).mono ?_;clear S;rintro _ _ ⟨x,rfl,hx,S⟩;have hx1:=ua hb x)
      | (go_at_call 117;refine (bH.ins S (by omega)).mono ?_;clear S;rintro _ _ ⟨_,rfl,Y,S⟩))
     iterate 3 (try any_goals ((go_at_call 33;refine (bH.on S (by omega)).mono ?_;clear S;rintro _ _ ⟨(_ | _),rfl,S⟩) <;> go_wp2_with (first
      | (at_builtin;refine gV rfl _ _ rfl rfl rfl S Y (by omega) ?_;clear S Y;intro _ _ _ S)
      | (go_at_call 30;refine (bH.bl S (by omega)).mono ?_;clear S;rintro _ _ ⟨x,rfl,hx,S⟩;have hx1:=ua hb x)
      | (go_at_call 117;refine (bH.ins S (by omega)).mono ?_;clear S;rintro _ _ ⟨_,rfl,Y,S⟩))))
     all_goals go_roundw
     all_goals (try exact ⟨_,_,_,rfl,S,by omega⟩)
     all_goals (simp [lenOf];omega)
  ·have hlt':decide ((nn:Int)<4*(n:Int))=false:=by simp;omega
   go_wp2_with fail;go_ret;exact ⟨_,_,_,by omega,rfl,S⟩
end Go.Proofs.YtaoaifmkhbgaiaaGreat

namespace Go.Proofs.YtaoaifmkhbgaiaaGreat
open Go.RowKit
set_option linter.unusedVariables false
def Br (w:World) (p:Nat) (f:Nat→Int) (e:Ending) (w':World):Prop:=∃g nn cp,(1≤nn∧nn≤20000)∧e=.returned (.slice (some ⟨g,0,none⟩) nn cp)∧Sw w p f g nn cp w'
theorem Sw.cap {w v:World} {p g n cp:Nat} {f:Nat→Int} (h:Sw w p f g n cp v):n≤cp:=by
 obtain ⟨_,_,_,o⟩:=h;exact o.o.facts.2.2.2.1
set_option maxRecDepth 20000 in
set_option maxHeartbeats 6400000 in
theorem wZ (p:Nat) (f:Nat→Int) (w:World) (h:Dw w p f w):Calls Tryz.prog 79 #[.pointer (some ⟨p,0,none⟩)] w (Br w p f):=by
 have D:=h;clear h;go_enter Tryz.func79,Tryz.ntmps79;go_wp2_with fail;refine (AB.on D (by omega)).mono ?_;clear D;rintro _ _ ⟨us,rfl,D⟩;go_wp2_with fail;refine (AB.bl D (by omega)).mono ?_;clear D;rintro _ v2 ⟨c0,rfl,hc0,D⟩;have S:=D.new;clear D;obtain ⟨careful,hcar⟩:∃b,decide (0<c0)=b:=⟨_,rfl⟩;go_wp2_with fail;clear hcar hc0;generalize v2.alloc (Obj.cells #[] 5)=wz at S ⊢;generalize v2.heap.size=gz at S ⊢;go_loopw [5,6] (fun vv jj wr=>∃g cp j:Nat,j≤3∧vv=.slice (some ⟨g,0,none⟩) j cp∧jj=.int .i64 j∧Sw w p f g j cp wr) (fun _ jj _=>3-(intOf jj).toNat)
 case atStart=>exact ⟨_,_,0,by omega,rfl,rfl,S⟩
 case round=>
 clear S;obtain ⟨g,cp,j,hj,rfl,rfl,S⟩:=hrel;by_cases hlt:j<3
 ·as_aux_lemma=>
   go_wp2_with fail;refine (bH.bl S (by omega)).mono ?_;clear S;rintro _ _ ⟨y,rfl,hy,S⟩;go_wp2_with fail;refine (bH.on S (by omega)).mono ?_;clear S;rintro _ _ ⟨(_ | _),rfl,S⟩;all_goals
    go_wp2_with (at_builtin;refine gV rfl _ _ rfl rfl rfl (bH.keep S (jL _ _)) (AA _ _ (by omega)) (by omega) ?_;clear S;intro _ _ _ S);go_roundw
    case rel=>exact ⟨_,_,j+1,by omega,rfl,by go_num,S⟩
    case measure=>simp [intOf];omega
 have hj3:j=3:=by omega
 subst hj3;clear hlt hj
 as_aux_lemma=>
 go_upto_if 52 with (first | fail | (go_at_call 30;refine (bH.bl S (by omega)).mono ?_;clear S;rintro _ _ ⟨x,rfl,hx,S⟩) | (go_at_call 33;refine (bH.on S (by omega)).mono ?_;clear S;rintro _ _ ⟨ob,rfl,S⟩));go_cut [8] from 53 to 55 (fun s wx=>∃x:Int,s=.int .i64 x∧(0≤x∧x≤255)∧Sw w p f g 3 cp wx)
 case first=>cases ob <;> (go_wp2_with (first | fail | (go_at_call 30;refine (bH.bl S (by omega)).mono ?_;clear S;rintro _ _ ⟨x,rfl,hx,S⟩) | (go_at_call 33;refine (bH.on S (by omega)).mono ?_;clear S;rintro _ _ ⟨ob,rfl,S⟩) | (go_at_call 72;refine (bH.va S).mono ?_;clear S;rintro _ _ ⟨x,rfl,hx,S⟩) | (go_at_call 116;refine (bH.an S).mono ?_;clear S;rintro _ _ ⟨x,rfl,hx,S⟩) | (go_at_call 50;refine (aZ 60 1152921504606846976 _ (by omega) (by decide)).mono ?_;rintro _ _ ⟨rfl,rfl⟩));go_meet;case rel=>exact ⟨_,rfl,by omega,S⟩)
 case rest=>
 clear S;obtain ⟨pages,rfl,bpages,S⟩:=hcut;go_upto_if 56 with (first | fail | (go_at_call 30;refine (bH.bl S (by omega)).mono ?_;clear S;rintro _ _ ⟨x,rfl,hx,S⟩) | (go_at_call 33;refine (bH.on S (by omega)).mono ?_;clear S;rintro _ _ ⟨ob,rfl,S⟩));go_cut [9] from 56 to 56 (fun s wx=>∃x:Int,s=.int .i64 x∧(0≤x∧x≤1)∧Sw w p f g 3 cp wx)
 case first=>cases us <;> (go_wp2_with (first | fail | (go_at_call 30;refine (bH.bl S (by omega)).mono ?_;clear S;rintro _ _ ⟨x,rfl,hx,S⟩) | (go_at_call 33;refine (bH.on S (by omega)).mono ?_;clear S;rintro _ _ ⟨ob,rfl,S⟩) | (go_at_call 72;refine (bH.va S).mono ?_;clear S;rintro _ _ ⟨x,rfl,hx,S⟩) | (go_at_call 116;refine (bH.an S).mono ?_;clear S;rintro _ _ ⟨x,rfl,hx,S⟩) | (go_at_call 50;refine (aZ 60 1152921504606846976 _ (by omega) (by decide)).mono ?_;rintro _ _ ⟨rfl,rfl⟩));go_meet;case rel=>exact ⟨_,rfl,by omega,S⟩)
 case rest=>
 clear S;obtain ⟨m0,rfl,bm0,S⟩:=hcut;go_upto_if 58 with (first | fail | (go_at_call 30;refine (bH.bl S (by omega)).mono ?_;clear S;rintro _ _ ⟨x,rfl,hx,S⟩) | (go_at_call 33;refine (bH.on S (by omega)).mono ?_;clear S;rintro _ _ ⟨ob,rfl,S⟩));go_cut [9] from 58 to 58 (fun s wx=>∃x:Int,s=.int .i64 x∧(0≤x∧x≤2)∧Sw w p f g 3 cp wx)
 case first=>cases ob <;> (go_wp2_with (first | fail | (go_at_call 30;refine (bH.bl S (by omega)).mono ?_;clear S;rintro _ _ ⟨x,rfl,hx,S⟩) | (go_at_call 33;refine (bH.on S (by omega)).mono ?_;clear S;rintro _ _ ⟨ob,rfl,S⟩) | (go_at_call 72;refine (bH.va S).mono ?_;clear S;rintro _ _ ⟨x,rfl,hx,S⟩) | (go_at_call 116;refine (bH.an S).mono ?_;clear S;rintro _ _ ⟨x,rfl,hx,S⟩) | (go_at_call 50;refine (aZ 60 1152921504606846976 _ (by omega) (by decide)).mono ?_;rintro _ _ ⟨rfl,rfl⟩));go_meet;case rel=>exact ⟨_,rfl,by omega,S⟩)
 case rest=>
 clear S;obtain ⟨mode,rfl,bmode,S⟩:=hcut;go_wp2_with fail;refine (bH.bl S (by omega)).mono ?_;clear S;rintro _ _ ⟨fl,rfl,hfl,S⟩;obtain ⟨z,hz⟩:∃z,mode+4*fl=z:=⟨_,rfl⟩;have bz:0≤z∧z≤255:=by omega
 go_upto_region 21 with (at_builtin;refine gV rfl _ _ rfl rfl rfl (bH.keep S (jL _ _)) (Bc _ _ _ ⟨bpages,bz⟩) (by omega) ?_;clear S;intro g cp _ S);clear hz
 as_aux_lemma=>
 go_upto_if 75 with (first | fail | (go_at_call 30;refine (bH.bl S (by omega)).mono ?_;clear S;rintro _ _ ⟨x,rfl,hx,S⟩) | (go_at_call 33;refine (bH.on S (by omega)).mono ?_;clear S;rintro _ _ ⟨ob,rfl,S⟩));go_cut [11] from 76 to 77 (fun s wx=>∃x:Int,s=.int .i64 x∧(0≤x∧x≤84)∧Sw w p f g 5 cp wx)
 case first=>cases ob <;> (go_wp2_with (first | fail | (go_at_call 30;refine (bH.bl S (by omega)).mono ?_;clear S;rintro _ _ ⟨x,rfl,hx,S⟩) | (go_at_call 33;refine (bH.on S (by omega)).mono ?_;clear S;rintro _ _ ⟨ob,rfl,S⟩) | (go_at_call 72;refine (bH.va S).mono ?_;clear S;rintro _ _ ⟨x,rfl,hx,S⟩) | (go_at_call 116;refine (bH.an S).mono ?_;clear S;rintro _ _ ⟨x,rfl,hx,S⟩) | (go_at_call 50;refine (aZ 60 1152921504606846976 _ (by omega) (by decide)).mono ?_;rintro _ _ ⟨rfl,rfl⟩));go_meet;case rel=>exact ⟨_,rfl,by omega,S⟩)
 case rest=>
 clear S;obtain ⟨n1,rfl,bn1,S⟩:=hcut;go_upto_if 79 with (first | fail | (go_at_call 30;refine (bH.bl S (by omega)).mono ?_;clear S;rintro _ _ ⟨x,rfl,hx,S⟩) | (go_at_call 33;refine (bH.on S (by omega)).mono ?_;clear S;rintro _ _ ⟨ob,rfl,S⟩));go_cut [11] from 80 to 82 (fun s wx=>∃x:Int,s=.int .i64 x∧(0≤x∧x≤20001)∧Sw w p f g 5 cp wx)
 case first=>cases ob <;> (go_wp2_with (first | fail | (go_at_call 30;refine (bH.bl S (by omega)).mono ?_;clear S;rintro _ _ ⟨x,rfl,hx,S⟩) | (go_at_call 33;refine (bH.on S (by omega)).mono ?_;clear S;rintro _ _ ⟨ob,rfl,S⟩) | (go_at_call 72;refine (bH.va S).mono ?_;clear S;rintro _ _ ⟨x,rfl,hx,S⟩) | (go_at_call 116;refine (bH.an S).mono ?_;clear S;rintro _ _ ⟨x,rfl,hx,S⟩) | (go_at_call 50;refine (aZ 60 1152921504606846976 _ (by omega) (by decide)).mono ?_;rintro _ _ ⟨rfl,rfl⟩));go_meet;case rel=>exact ⟨_,rfl,by omega,S⟩)
 case rest=>
 clear S;obtain ⟨ns,rfl,bns,S⟩:=hcut
 as_aux_lemma=>
 go_upto_if 89 with (first | (at_builtin;refine gV rfl _ _ rfl rfl rfl S Y (by omega) ?_;clear S Y;intro g cp _ S) | (go_at_call 30;refine (bH.bl S (by omega)).mono ?_;clear S;rintro _ _ ⟨x,rfl,hx,S⟩) | (go_at_call 33;refine (bH.on S (by omega)).mono ?_;clear S;rintro _ _ ⟨ob,rfl,S⟩) | (go_at_call 85;refine (bH.bt S 2 (by omega)).mono ?_;clear S;rintro _ _ ⟨_,_,rfl,Y,S⟩) | (go_at_call 73;refine (bH.fl S _).mono ?_;clear S;rintro _ _ ⟨x,rfl,hx,S⟩) | (go_at_call 72;refine (bH.va S).mono ?_;clear S;rintro _ _ ⟨x,rfl,hx,S⟩) | (go_at_call 116;refine (bH.an S).mono ?_;clear S;rintro _ _ ⟨x,rfl,hx,S⟩) | (go_at_call 31;refine (t8 (by omega)).mono ?_;rintro _ _ ⟨x,rfl,hx,rfl⟩) | (go_at_call 50;refine (aZ 60 1152921504606846976 _ (by omega) (by decide)).mono ?_;rintro _ _ ⟨rfl,rfl⟩));go_cut [12] from 90 to 91 (fun s wx=>∃x:Int,s=.int .u64 x∧(0≤x∧x≤18446744073709551615)∧Sw w p f g 7 cp wx)
 case first=>cases ob <;> (go_wp2_with (first | fail | (go_at_call 30;refine (bH.bl S (by omega)).mono ?_;clear S;rintro _ _ ⟨x,rfl,hx,S⟩) | (go_at_call 33;refine (bH.on S (by omega)).mono ?_;clear S;rintro _ _ ⟨ob,rfl,S⟩) | (go_at_call 72;refine (bH.va S).mono ?_;clear S;rintro _ _ ⟨x,rfl,hx,S⟩) | (go_at_call 116;refine (bH.an S).mono ?_;clear S;rintro _ _ ⟨x,rfl,hx,S⟩) | (go_at_call 50;refine (aZ 60 1152921504606846976 _ (by omega) (by decide)).mono ?_;rintro _ _ ⟨rfl,rfl⟩));go_meet;case rel=>exact ⟨_,rfl,by omega,S⟩)
 case rest=>
 clear S;obtain ⟨pcv,rfl,bpcv,S⟩:=hcut
 as_aux_lemma=>
 go_upto_if 105 with (first | (at_builtin;refine gV rfl _ _ rfl rfl rfl S Y (by omega) ?_;clear S Y;intro g cp _ S) | (go_at_call 30;refine (bH.bl S (by omega)).mono ?_;clear S;rintro _ _ ⟨x,rfl,hx,S⟩) | (go_at_call 33;refine (bH.on S (by omega)).mono ?_;clear S;rintro _ _ ⟨ob,rfl,S⟩) | (go_at_call 85;refine (bH.bt S 8 (by omega)).mono ?_;clear S;rintro _ _ ⟨_,_,rfl,Y,S⟩) | (go_at_call 73;refine (bH.fl S _).mono ?_;clear S;rintro _ _ ⟨x,rfl,hx,S⟩) | (go_at_call 72;refine (bH.va S).mono ?_;clear S;rintro _ _ ⟨x,rfl,hx,S⟩) | (go_at_call 116;refine (bH.an S).mono ?_;clear S;rintro _ _ ⟨x,rfl,hx,S⟩) | (go_at_call 31;refine (t8 (by omega)).mono ?_;rintro _ _ ⟨x,rfl,hx,rfl⟩) | (go_at_call 50;refine (aZ 60 1152921504606846976 _ (by omega) (by decide)).mono ?_;rintro _ _ ⟨rfl,rfl⟩));go_cut [14] from 106 to 110 (fun s wx=>∃x:Int,s=.int .u64 x∧(0≤x∧x≤18446744073709551615)∧Sw w p f g 23 cp wx)
 case first=>cases ob <;> (go_wp2_with (first | fail | (go_at_call 30;refine (bH.bl S (by omega)).mono ?_;clear S;rintro _ _ ⟨x,rfl,hx,S⟩) | (go_at_call 33;refine (bH.on S (by omega)).mono ?_;clear S;rintro _ _ ⟨ob,rfl,S⟩) | (go_at_call 72;refine (bH.va S).mono ?_;clear S;rintro _ _ ⟨x,rfl,hx,S⟩) | (go_at_call 116;refine (bH.an S).mono ?_;clear S;rintro _ _ ⟨x,rfl,hx,S⟩) | (go_at_call 50;refine (aZ 60 1152921504606846976 _ (by omega) (by decide)).mono ?_;rintro _ _ ⟨rfl,rfl⟩));go_meet;case rel=>exact ⟨_,rfl,by omega,S⟩)
 case rest=>
 clear S;obtain ⟨sp,rfl,bsp,S⟩:=hcut
 as_aux_lemma=>
 go_upto_if 132 with (first | (at_builtin;refine gV rfl _ _ rfl rfl rfl S Y (by omega) ?_;clear S Y;intro g cp _ S) | (go_at_call 30;refine (bH.bl S (by omega)).mono ?_;clear S;rintro _ _ ⟨x,rfl,hx,S⟩) | (go_at_call 33;refine (bH.on S (by omega)).mono ?_;clear S;rintro _ _ ⟨ob,rfl,S⟩) | (go_at_call 85;refine (bH.bt S 8 (by omega)).mono ?_;clear S;rintro _ _ ⟨_,_,rfl,Y,S⟩) | (go_at_call 73;refine (bH.fl S _).mono ?_;clear S;rintro _ _ ⟨x,rfl,hx,S⟩) | (go_at_call 72;refine (bH.va S).mono ?_;clear S;rintro _ _ ⟨x,rfl,hx,S⟩) | (go_at_call 116;refine (bH.an S).mono ?_;clear S;rintro _ _ ⟨x,rfl,hx,S⟩) | (go_at_call 31;refine (t8 (by omega)).mono ?_;rintro _ _ ⟨x,rfl,hx,rfl⟩) | (go_at_call 50;refine (aZ 60 1152921504606846976 _ (by omega) (by decide)).mono ?_;rintro _ _ ⟨rfl,rfl⟩));go_cut [18] from 133 to 134 (fun s wx=>∃x:Int,s=.int .u64 x∧(0≤x∧x≤18446744073709551615)∧Sw w p f g 31 cp wx)
 case first=>cases ob <;> (go_wp2_with (first | fail | (go_at_call 30;refine (bH.bl S (by omega)).mono ?_;clear S;rintro _ _ ⟨x,rfl,hx,S⟩) | (go_at_call 33;refine (bH.on S (by omega)).mono ?_;clear S;rintro _ _ ⟨ob,rfl,S⟩) | (go_at_call 72;refine (bH.va S).mono ?_;clear S;rintro _ _ ⟨x,rfl,hx,S⟩) | (go_at_call 116;refine (bH.an S).mono ?_;clear S;rintro _ _ ⟨x,rfl,hx,S⟩) | (go_at_call 50;refine (aZ 60 1152921504606846976 _ (by omega) (by decide)).mono ?_;rintro _ _ ⟨rfl,rfl⟩));go_meet;case rel=>exact ⟨_,rfl,by omega,S⟩)
 case rest=>
 clear S;obtain ⟨lf,rfl,blf,S⟩:=hcut
 as_aux_lemma=>
 go_upto_region 52 with (first | (at_builtin;refine gV rfl _ _ rfl rfl rfl S Y (by omega) ?_;clear S Y;intro g cp _ S) | (go_at_call 30;refine (bH.bl S (by omega)).mono ?_;clear S;rintro _ _ ⟨x,rfl,hx,S⟩) | (go_at_call 33;refine (bH.on S (by omega)).mono ?_;clear S;rintro _ _ ⟨ob,rfl,S⟩) | (go_at_call 85;refine (bH.bt S 8 (by omega)).mono ?_;clear S;rintro _ _ ⟨_,_,rfl,Y,S⟩) | (go_at_call 73;refine (bH.fl S _).mono ?_;clear S;rintro _ _ ⟨x,rfl,hx,S⟩) | (go_at_call 72;refine (bH.va S).mono ?_;clear S;rintro _ _ ⟨x,rfl,hx,S⟩) | (go_at_call 116;refine (bH.an S).mono ?_;clear S;rintro _ _ ⟨x,rfl,hx,S⟩) | (go_at_call 31;refine (t8 (by omega)).mono ?_;rintro _ _ ⟨x,rfl,hx,rfl⟩) | (go_at_call 50;refine (aZ 60 1152921504606846976 _ (by omega) (by decide)).mono ?_;rintro _ _ ⟨rfl,rfl⟩));rename World=>v5;have R:=S.new;clear S;go_upto_region 53 with fail;generalize v5.alloc (Obj.cells #[] 22)=wR at R ⊢;generalize v5.heap.size=gR at R ⊢
 as_aux_lemma=>
 go_wp2_with fail;refine (Rr.ins R (by omega)).mono ?_;clear R;rintro _ _ ⟨gh,rfl,S⟩;go_wp2_with fail;refine (Bd.on S (by omega)).mono ?_;clear S;rintro _ v6 ⟨ob,rfl,S,O⟩;go_upto_if 178 with fail;go_cut [22] from 179 to 181 (fun s wx=>∃gh nh ch,s=.slice (some ⟨gh,0,none⟩) nh ch∧nh≤8∧Byv wx gh nh∧Rr w p f g 87 cp gR 0 0 wx)
 case first=>
  cases ob
  ·go_wp2_with fail;go_meet
   case rel=>exact ⟨gh,4,4,rfl,by omega,O.byv,S⟩
  ·go_wp2_with fail;refine (qX 11 0 0 0 0 _ (by omega) (by omega) (by omega) (by omega)).mono ?_;rintro _ vi ⟨gi,rfl,oi,ni⟩;obtain ⟨_,ys,oh,bh⟩:=O;have yh:=(oh.keep ni oh.facts.2.2.1).byt bh;have hl:=oh.facts;go_wp2_with (at_builtin;refine eJ _ rfl _ _ 22 rfl 5 Tryz.underlying22 Tryz.infoB v6.heap.size gi 4 4 _ rfl oi gh 0 4 4 ys rfl yh (by omega) v6.heap.size v6 ni (Nat.le_refl _) ?_;intro g4 cp4 x4 o4 n4);go_meet
   case rel=>exact ⟨g4,8,cp4,rfl,by omega,⟨_,o4.byt (AR (ux (by omega) (by omega) (by omega) (by omega)) bh)⟩,fy.keep S n4⟩
 case rest=>
 clear S O;obtain ⟨gh,nh,ch,rfl,hnh,Y,S⟩:=hcut
 as_aux_lemma=>
 go_wp2_with fail;refine (Rr.run1 S Y (by omega)).mono ?_;clear S Y;rintro _ _ ⟨_,_,rfl,Y,S⟩;go_upto_if 187 with (at_builtin;refine jM rfl _ _ rfl rfl rfl S Y (by omega) ?_;clear S Y;intro gR cR _ S);go_cut [23] from 188 to 189 (fun s wx=>∃x:Int,s=.int .u64 x∧(199≤x∧x≤215)∧Rr w p f g 87 cp gR 1 cR wx)
 case first=>cases us <;> (go_wp2_with fail;go_meet;case rel=>exact ⟨_,rfl,by omega,S⟩)
 case rest=>
 clear S;obtain ⟨al,rfl,bal,S⟩:=hcut
 as_aux_lemma=>
 go_upto_region 65 with (first | (at_builtin;refine jM rfl _ _ rfl rfl rfl S Y (by omega) ?_;clear S Y;intro gR cR _ S) | (go_at_call 119;refine (Rr.pte S (by omega)).mono ?_;clear S;rintro _ _ ⟨_,_,rfl,Y,S⟩) | (go_at_call 30;refine (fy.bl S (by omega)).mono ?_;clear S;rintro _ _ ⟨x,rfl,hx,S⟩) | (go_at_call 73;refine (fy.fl S _).mono ?_;clear S;rintro _ _ ⟨x,rfl,hx,S⟩) | (go_at_call 120;refine (fy.pt S (by omega)).mono ?_;clear S;rintro _ _ ⟨x,rfl,hx,S⟩))
 as_aux_lemma=>
 go_wp2_with (first | (at_builtin;refine jM rfl _ _ rfl rfl rfl S Y (by omega) ?_;clear S Y;intro gR cR _ S) | (go_at_call 119;refine (Rr.pte S (by omega)).mono ?_;clear S;rintro _ _ ⟨_,_,rfl,Y,S⟩) | (go_at_call 30;refine (fy.bl S (by omega)).mono ?_;clear S;rintro _ _ ⟨x,rfl,hx,S⟩) | (go_at_call 73;refine (fy.fl S _).mono ?_;clear S;rintro _ _ ⟨x,rfl,hx,S⟩) | (go_at_call 120;refine (fy.pt S (by omega)).mono ?_;clear S;rintro _ _ ⟨x,rfl,hx,S⟩));go_loopw [21,24] (fun vv tt wr=>∃a gR cR:Nat,a≤3∧vv=.slice (some ⟨gR,0,none⟩) (10+8*a) cR∧tt=.int .i64 (5+(a:Int))∧Rr w p f g 87 cp gR (10+8*a) cR wr) (fun _ tt _=>8-(intOf tt).toNat)
 case atStart=>exact ⟨0,_,_,by omega,rfl,by simp,S⟩
 case round=>
 clear S;obtain ⟨a,gR,cR,ha,rfl,rfl,S⟩:=hrel;by_cases hlt:a<3
 ·as_aux_lemma=>
   have hlt':decide ((5+(a:Int))<8)=true:=by simp;omega
   rename World=>wo;go_wp2_with fail;go_loopw [21,25] (fun vv ii wr=>∃i gR cR:Nat,i≤8∧vv=.slice (some ⟨gR,0,none⟩) (10+8*a+i) cR∧ii=.int .i64 i∧Rr w p f g 87 cp gR (10+8*a+i) cR wr) (fun _ ii _=>8-(intOf ii).toNat)
   case atStart=>exact ⟨0,gR,cR,by omega,rfl,rfl,S⟩
   case round=>
    clear S;obtain ⟨i,gR,cR,hi,rfl,rfl,S⟩:=hrel;by_cases hil:i<8
    ·have hil':decide ((i:Int)<8)=true:=by simp;omega
     go_wp2_with fail;refine (fy.fl S _).mono ?_;clear S;rintro _ _ ⟨x,rfl,hx,S⟩;by_cases hs2:(i:Int)<2
     ·have d2:decide ((i:Int)<2)=true:=by simp;omega
      have hn1:¬(1<(i:Int)):=by omega
      have d1:decide ((i:Int)>1)=false:=by simp;omega
      have d1':decide (1<(i:Int))=false:=by simp;omega
      as_aux_lemma=>
       go_wp2_with fail
       iterate 2 (all_goals ((refine (fy.on S (by omega)).mono ?_;clear S;rintro _ _ ⟨(_ | _),rfl,S⟩) <;> go_wp2_with (first | (at_builtin;refine jM rfl _ _ rfl rfl rfl S Y (by omega) ?_;clear S Y;intro gR cR _ S) | (go_at_call 119;refine (Rr.pte S (by omega)).mono ?_;clear S;rintro _ _ ⟨_,_,rfl,Y,S⟩) | (go_at_call 30;refine (fy.bl S (by omega)).mono ?_;clear S;rintro _ _ ⟨x,rfl,hx,S⟩) | (go_at_call 73;refine (fy.fl S _).mono ?_;clear S;rintro _ _ ⟨x,rfl,hx,S⟩) | (go_at_call 120;refine (fy.pt S (by omega)).mono ?_;clear S;rintro _ _ ⟨x,rfl,hx,S⟩))))
       all_goals go_roundw
       all_goals (try exact ⟨i+1,_,_,by omega,rfl,by go_num,S⟩)
       all_goals (simp [intOf];omega)
     ·have d2:decide ((i:Int)<2)=false:=by simp;omega
      have hn1:1<(i:Int):=by omega
      have d1:decide ((i:Int)>1)=true:=by simp;omega
      have d1':decide (1<(i:Int))=true:=by simp;omega
      as_aux_lemma=>
       go_wp2_with fail
       iterate 2 (all_goals ((refine (fy.on S (by omega)).mono ?_;clear S;rintro _ _ ⟨(_ | _),rfl,S⟩) <;> go_wp2_with (first | (at_builtin;refine jM rfl _ _ rfl rfl rfl S Y (by omega) ?_;clear S Y;intro gR cR _ S) | (go_at_call 119;refine (Rr.pte S (by omega)).mono ?_;clear S;rintro _ _ ⟨_,_,rfl,Y,S⟩) | (go_at_call 30;refine (fy.bl S (by omega)).mono ?_;clear S;rintro _ _ ⟨x,rfl,hx,S⟩) | (go_at_call 73;refine (fy.fl S _).mono ?_;clear S;rintro _ _ ⟨x,rfl,hx,S⟩) | (go_at_call 120;refine (fy.pt S (by omega)).mono ?_;clear S;rintro _ _ ⟨x,rfl,hx,S⟩))))
       all_goals go_roundw
       all_goals (try exact ⟨i+1,_,_,by omega,rfl,by go_num,S⟩)
       all_goals (simp [intOf];omega)
    ·have hi8:i=8:=by omega
     subst hi8;have hil':decide (((8:Nat):Int)<8)=false:=by decide
     go_wp2_with fail;go_roundw
     case rel=>exact ⟨a+1,gR,cR,by omega,by rw [show 10+8*(a+1)=10+8*a+8 by omega],by go_num,by rw [show 10+8*(a+1)=10+8*a+8 by omega];exact S⟩
     case measure=>simp [intOf];omega
 have ha3:a=3:=by omega
 subst ha3;clear hlt ha
 as_aux_lemma=>
 go_wp2_with fail;refine (uR p f 28 careful _ S.dw (by omega)).mono ?_;rintro _ _ ⟨gP,nP,cP,hP,rfl,OP⟩;have hc:=OP.cap;obtain ⟨S,hY⟩:=S.prog OP;have Y:=hY 112 (by omega);have hP1:112≤nP:=by omega
 have hP2:112≤cP:=by omega
 clear OP hY;go_wp2_with fail;refine (Rr.run1 S Y (by omega)).mono ?_;clear S Y;rintro _ _ ⟨_,_,rfl,Y,S⟩;go_upto_region 86 with (at_builtin;refine jM rfl _ _ rfl rfl rfl S Y (by omega) ?_;clear S Y;intro gR cR _ S);go_upto_region 87 with (at_builtin;refine uQ rfl _ _ rfl rfl rfl (fy.keep S (jL _ _)) (AA _ _ (by omega)) (by omega) ?_;clear S;intro g cp _ S)
 as_aux_lemma=>
 go_wp2_with fail;go_loopw [5,29] (fun vv jj wr=>∃j gO nO cO:Nat,j≤35∧vv=.slice (some ⟨gO,0,none⟩) nO cO∧jj=.int .i64 j∧(1≤nO∧nO≤200+300*j)∧Rr w p f gO nO cO gR 35 cR wr) (fun _ jj _=>35-(intOf jj).toNat)
 case atStart=>exact ⟨0,_,_,_,by omega,rfl,rfl,by omega,S⟩
 case round=>
 clear S;obtain ⟨j,gO,nO,cO,hj,rfl,rfl,hn,S⟩:=hrel;by_cases hjl:j<35
 ·as_aux_lemma=>
   have hjl':decide ((j:Int)<35)=true:=by simp;omega
   obtain ⟨ge,q,ce,cj,Y,hq,hgR⟩:=S.row hjl;go_wp2_with (at_builtin;refine uQ rfl _ _ rfl rfl rfl S Y (by omega) ?_;clear S Y;intro g2 cp2 _ S);go_roundw
   case rel=>exact ⟨j+1,_,_,_,by omega,rfl,by go_num,by omega,S⟩
   case measure=>simp [intOf];omega
 have hj35:j=35:=by omega
 subst hj35;have hjl':decide (((35:Nat):Int)<35)=false:=by decide
 have S2:=S.toS;clear S hjl hj;by_cases hn2:ns<200
 ·as_aux_lemma=>
   obtain ⟨mm,rfl⟩:∃mm:Nat,ns=mm:=⟨ns.toNat,by omega⟩;have hn2d:decide ((mm:Int)<200)=true:=by simp;omega
   go_wp2_with fail;refine (S2.mem (by omega)).mono ?_;clear S2;rintro _ _ ⟨gm,cm,rfl,Y,S⟩;go_wp2_with (at_builtin;refine gV rfl _ _ rfl rfl rfl S Y (by omega) ?_;clear S Y;intro g2 cp2 _ S);go_ret;exact ⟨_,_,_,by omega,rfl,S⟩
 ·as_aux_lemma=>
   have hn2d:decide (ns<200)=false:=by simp;omega
   go_wp2_with fail;go_ret;exact ⟨_,_,_,by omega,rfl,S2⟩
end Go.Proofs.YtaoaifmkhbgaiaaGreat
