/-
  My own texts,without what this claim does not need. My own text.
-/
import Derived.Test.YtklpfooafbjnpaaGreatProg
import Derived.ProofKit
import Derived.Laws.StructEq
import Derived.Shelf.Small.Bits
import Derived.Shelf.Strconv.Itoa0
import Derived.Shelf.Bits.Mul64
import Derived.Test.YtklpfooafbjnpaaGreatSLEndsK6
set_option maxRecDepth 100000
set_option maxHeartbeats 64000000
set_option linter.unusedVariables false
set_option linter.unusedSimpArgs false
set_option linter.unusedSectionVars false
open Go.Proofs.Tryz renaming prog → ah
namespace Go.Proofs.YtklpfooafbjnpaaGreat
open Go.RowKit
structure z1 where
 ty:List (Nat×Bool×Nat)
 zero:List (Nat×List Value)
 o3:List (Nat×List (Nat×Nat))
 oq:List (Nat×Nat×Nat)
 jA:List (Nat×List (Nat×Nat))
def mz{α:Type}(R:α→Prop):List α→Prop
 | []=>True
 | a::l=>R a∧mz R l
theorem rO{α:Type}{R:Nat×α→Prop}{k:Nat}{v:α}:∀(l:List (Nat×α)),mz R l→gx l k=some v→R (k,v)
 | [],_,h=>by cases h
 | (j,u)::l,al,h=>by
  simp only[gx] at h;cases aa:Nat.beq k j with
  | true=>rw[aa] at h;cases h;obtain rfl:=gd aa;exact al.1
  | false=>rw[aa] at h;exact rO l al.2 h
class Hr (P:Program) (T:outParam z1):Prop where
 ty:mz (fun p=>lx P p.1=some p.2) T.ty
 zero:mz (fun p=>zeroOf P p.1=some p.2) T.zero
 o3:mz (fun p=>mz (fun q=>wu P p.1 q.1=some q.2) p.2) T.o3
 oq:mz (fun p=>DL P p.1=some p.2) T.oq
 jA:mz (fun p=>Gf P p.1=some p.2) T.jA
def TD(b:BinOp)(m n:Int):Option Bool :=
 match b with
 | .lss=>some (decide (m<n))
 | .leq=>some (decide (m≤n))
 | .gtr=>some (decide (n<m))
 | .geq=>some (decide (n≤m))
 | .eql=>some (decide (m=n))
 | .neq=>some (!decide (m=n))
 | _=>none
def oh(T:z1)(s:aB)(d:Nat):Op→Option aB
 | .move x=>match s.look x with
  | some av=>some (s.put (some d) av)
  | none=>none
 | .assign x=>match s.look x with
  | some av=>some (s.put (some d) av)
  | none=>none
 | .pick c x y=>match s.look c,s.look x,s.look y with
  | some (.w (.one (.c (.bool true)))),some av,some _=>some (s.put (some d) av)
  | some (.w (.one (.c (.bool false)))),some _,some bv=>some (s.put (some d) bv)
  | _,_,_=>none
 | .alloc t=>match gx T.zero t,s.mem d with
  | some vs,none=>bif vs.all fun v=>v.oneCell' then some ((s.en d (vs.map .c)).put (some d) (nK d 0)) else none
  | _,_=>none
 | .box _ x=>match s.look x,s.mem d with
  | some (.w z),none=>some ((s.en d z.cells).put (some d) (nK d 0))
  | _,_=>none
 | .load t x=>match s.look x with
  | some (.w (.one (.own k off)))=>match s.mem k with
   | some cs=>match gx T.ty t with
    | some (false,_)=>match cs[off]? with
     | some y=>some (s.put (some d) (.w (.one y)))
     | none=>none
    | some (true,n)=>match takeN cs off n with
     | some ys=>some (s.put (some d) (.w (.agg ys)))
     | none=>none
    | none=>none
   | none=>none
  | _=>none
 | .fieldAddr t x i=>match s.look x with
  | some (.w (.one (.own k off)))=>match gx T.o3 t with
   | some l=>match gx l i with
    | some kl=>some (s.put (some d) (nK k (off+kl)))
    | none=>none
   | none=>none
  | _=>none
 | .indexAddr t x y=>match s.look x,s.look y with
  | some (.w (.one (.own k off))),some (.w (.one (.c (.int _ i))))=>match gx T.oq t with
   | some (n,size)=>bif decide (0≤i)&&decide (i<n) then some (s.put (some d) (nK k (off+i.toNat*size))) else none
   | none=>none
  | _,_=>none
 | .extract x i=>match s.look x with
  | some (.cd xs)=>match xs[i]? with
   | some y=>some (s.put (some d) (.w y))
   | none=>none
  | _=>none
 | .build t parts=>match oD s.look parts.toList,gx T.zero t,gx T.jA t with
  | some zs,some vs,some ps=>match rQ ps (vs.map .c) zs with
   | some r=>bif vs.all fun v=>v.oneCell' then some (s.put (some d) (.w (.agg r))) else none
   | none=>none
  | _,_,_=>none
 | .binOp b _ x y _=>match s.look x,s.look y with
  | some (.w (.one (.c (.int k m)))),some (.w (.one (.c (.int k' n))))=>match decEq k k' with
   | isTrue _=>match TD b m n with
    | some r=>some (s.put (some d) (bl r))
    | none=>none
   | isFalse _=>none
  | _,_=>none
 | .unOp .not _ x=>match s.look x with
  | some (.w (.one (.c (.bool b))))=>some (s.put (some d) (bl (!b)))
  | _=>none
 | _=>none
def TF(T:z1)(ops:Array Oper)(s:aB)(o:Oper):Option aB :=
 match want ops o s with
 | some true=>match o.dst with
  | some d=>bif Nat.blt d s.n then oh T s d o.op else none
  | none=>match o.op with
   | .store t x y=>match s.look x,s.look y with
    | some (.w (.one (.own k off))),some (.w z)=>match s.mem k,gx T.ty t with
     | some cs,some (_,n)=>bif Nat.beq n z.cells.length then(match qk cs off z.cells with
      | some ds=>some (s.en k ds)
      | none=>none) else none
     | _,_=>none
    | _,_=>none
   | _=>none
 | some false=>match o.dst with
  | some d=>bif Nat.blt d s.n then some (s.put (some d) (.cd [])) else none
  | none=>some s
 | none=>none
section
variable{P:Program}{T:z1}{s s':aB}{ops:Array Oper}{K:aB→Prop}{rest:List Oper}
theorem Yk [Q:Hr P T]{d ty:Nat}{op:Op}{pos:String}{after:Array Edge}{guard:Option (Nat×Bool)}(hw:want ops ⟨some d,op,ty,pos,after,guard⟩ s=some true)(hd:Nat.blt d s.n=true)(h:oh T s d op=some s')(k:bk P ops K rest s') :
  bk P ops K (⟨some d,op,ty,pos,after,guard⟩::rest) s:=by
 cases op with
 | move x =>
  simp only[oh] at h
  split at h
  ·rename_i av ab;cases h;exact X8 hw ab hd k
  ·cases h
 | assign x =>
  simp only[oh] at h
  split at h
  ·rename_i av ab;cases h;exact XJ hw ab hd k
  ·cases h
 | pick c x y =>
  simp only[oh] at h
  split at h
  ·rename_i av bv ak ab ai;cases h;exact Yj hw ak ab ai hd k
  ·rename_i av bv ak ab ai;cases h;exact Yi hw ak ai ab hd k
  ·cases h
 | alloc t =>
  simp only[oh] at h
  split at h
  ·rename_i vs aR hm;have dZ:=rO _ Q.zero aR;cases h1:(vs.all fun v=>v.oneCell') with
   | true =>
    rw[h1] at h;cases h;have:Dv P t vs:=⟨dZ⟩;exact XI hw hm h1 hd k
   | false=>rw[h1] at h;cases h
  ·cases h
 | box t x =>
  simp only[oh] at h
  split at h
  ·rename_i z ab hm;cases h;exact XK hw ab hm hd k
  ·cases h
 | load t x =>
  simp only[oh] at h
  split at h
  ·rename_i j off ab
   split at h
   ·rename_i cs hm
    split at h
    ·rename_i n eP;have A1:=rO _ Q.ty eP
     split at h
     ·rename_i y ak;cases h;have:e8 P t false n:=⟨A1⟩;exact X2 hw ab hm ak hd k
     ·cases h
    ·rename_i n eP;have A1:=rO _ Q.ty eP
     split at h
     ·rename_i ys ak;cases h;have:e8 P t true n:=⟨A1⟩;exact X3 hw ab hm ak hd k
     ·cases h
    ·cases h
   ·cases h
  ·cases h
 | fieldAddr t x i =>
  simp only[oh] at h
  split at h
  ·rename_i j off ab
   split at h
   ·rename_i l al
    split at h
    ·rename_i kl ay;have hF:=rO _ (rO _ Q.o3 al) ay;cases h;have:qv P t i kl:=⟨hF⟩;exact XW hw ab hd k
    ·cases h
   ·cases h
  ·cases h
 | indexAddr t x y =>
  simp only[oh] at h
  split at h
  ·rename_i j off gD i ab ai
   split at h
   ·rename_i n size cp;have AP:=rO _ Q.oq cp;cases h1:(decide (0≤i)&&decide (i<(n:Int))) with
    | true =>
     rw[h1] at h;cases h;rw[eb,cS,cS] at h1;have:Mq P t n size:=⟨AP⟩;exact Nf hw ab ai h1.1 h1.2 hd k
    | false=>rw[h1] at h;cases h
   ·cases h
  ·cases h
 | extract x i =>
  simp only[oh] at h
  split at h
  ·rename_i xs ab
   split at h
   ·rename_i y ai;cases h;exact XU hw ab ai hd k
   ·cases h
  ·cases h
 | build t parts =>
  simp only[oh] at h
  split at h
  ·rename_i zs vs ps aR hv hp;have dZ:=rO _ Q.zero hv;have dj:=rO _ Q.jA hp
   split at h
   ·rename_i r ao;cases h1:(vs.all fun v=>v.oneCell') with
    | true =>
     rw[h1] at h;cases h;have:Dv P t vs:=⟨dZ⟩;have:MN P t ps:=⟨dj⟩;have g:bk P ops K (⟨some d,.build t parts.toList.toArray,ty,pos,after,guard⟩::rest) s:=XL (by rw[Array.toArray_toList];exact hw) aR ao h1 hd k;rwa [Array.toArray_toList] at g
    | false=>rw[h1] at h;cases h
   ·cases h
  ·cases h
 | binOp b df x y dW =>
  simp only[oh] at h
  split at h
  ·rename_i gD m ang n ab ai
   split at h
   ·rename_i e he;subst e;cases b <;> simp only[TD] at h <;> cases h
    ·exact XR hw ab ai hd k
    ·exact Yc hw ab ai hd k
    ·exact X4 hw ab ai hd k
    ·exact X1 hw ab ai hd k
    ·exact XZ hw ab ai hd k
    ·exact XY hw ab ai hd k
   ·cases h
  ·cases h
 | unOp u df x =>
  cases u <;> simp only[oh] at h <;> try (cases h;done)
  split at h
  ·rename_i b ab;cases h;exact Yh hw ab hd k
  ·cases h
 | _=>simp only[oh] at h;cases h
theorem fT [Q:Hr P T]{o:Oper}(h:TF T ops s o=some s')(k:bk P ops K rest s'):bk P ops K (o::rest) s:=by
 obtain⟨dst,op,ty,pos,after,guard⟩:=o;unfold TF at h
 split at h
 ·rename_i hw;cases dst with
  | some d =>
   simp only at h;cases hd:Nat.blt d s.n with
   | true=>rw[hd] at h;exact Yk hw hd h k
   | false=>rw[hd] at h;cases h
  | none =>
   simp only at h
   split at h
   ·rename_i t x y
    split at h
    ·rename_i j off z ab ai
     split at h
     ·rename_i cs b n hm eP;have A1:=rO _ Q.ty eP;cases aA:Nat.beq n z.cells.length with
      | true =>
       rw[aA] at h;simp only[cond_true] at h
       split at h
       ·rename_i ds hp;cases h;have:e8 P t b n:=⟨A1⟩;exact Yr hw ab ai hm aA hp k
       ·cases h
      | false=>rw[aA] at h;cases h
     ·cases h
    ·cases h
   ·cases h
 ·rename_i hw;cases dst with
  | some d =>
   simp only at h;cases hd:Nat.blt d s.n with
   | true=>rw[hd] at h;cases h;exact Ni hw (fun d' e=>by cases e;exact hd) k
   | false=>rw[hd] at h;cases h
  | none=>cases h;exact Ni hw (fun d' e=>by cases e) k
 ·cases h
end
end Go.Proofs.YtklpfooafbjnpaaGreat
namespace Go.Proofs.YtklpfooafbjnpaaGreat
instance:e8 ah 3 false 1:=⟨by kernel_rfl⟩
instance:Hj ah 3 .i64:=⟨by kernel_rfl⟩
instance:e8 ah 4 false 1:=⟨by kernel_rfl⟩
instance:nP ah 22 [.int .i64 0,.int .i64 0,.int .i64 0,.int .i64 0,.int .i64 0]:=⟨by kernel_rfl⟩
instance:hy ah 22 5:=⟨by kernel_rfl⟩
instance:e8 ah 26 false 1:=⟨by kernel_rfl⟩
instance:e8 ah 28 false 1:=⟨by kernel_rfl⟩
instance:nP ah 28 [.int .i64 0,.int .i64 0,.int .i64 0,.int .i64 0,.int .i64 0]:=⟨by kernel_rfl⟩
instance:hy ah 28 5:=⟨by kernel_rfl⟩
instance:e8 ah 41 false 1:=⟨by kernel_rfl⟩
instance:nP ah 41 [.int .i64 0,.int .i64 0]:=⟨by kernel_rfl⟩
instance:hy ah 41 2:=⟨by kernel_rfl⟩
instance:e8 ah 42 false 1:=⟨by kernel_rfl⟩
instance:nP ah 42 [.slice none 0 0,.slice none 0 0]:=⟨by kernel_rfl⟩
instance:hy ah 42 2:=⟨by kernel_rfl⟩
instance:e8 ah 44 true 10:=⟨by kernel_rfl⟩
instance:qv ah 44 0 0:=⟨by kernel_rfl⟩
instance:qv ah 44 2 2:=⟨by kernel_rfl⟩
instance:qv ah 44 9 9:=⟨by kernel_rfl⟩
instance:e8 ah 50 true 2:=⟨by kernel_rfl⟩
instance:e8 ah 51 false 1:=⟨by kernel_rfl⟩
instance:nP ah 51 [.int .i64 0]:=⟨by kernel_rfl⟩
instance:hy ah 51 1:=⟨by kernel_rfl⟩
instance:e8 ah 53 true 2:=⟨by kernel_rfl⟩
instance:qv ah 53 1 1:=⟨by kernel_rfl⟩
instance:e8 ah 60 true 2:=⟨by kernel_rfl⟩
instance:e8 ah 65 false 1:=⟨by kernel_rfl⟩
instance:nP ah 65 [.slice none 0 0]:=⟨by kernel_rfl⟩
instance:hy ah 65 1:=⟨by kernel_rfl⟩
instance:e8 ah 70 false 1:=⟨by kernel_rfl⟩
instance:e8 ah 73 true 6:=⟨by kernel_rfl⟩
instance:e8 ah 95 true 5:=⟨by kernel_rfl⟩
instance:nP ah 100 [.int .i64 0,.int .i64 0,.int .i64 0,.int .i64 0]:=⟨by kernel_rfl⟩
instance:hy ah 100 4:=⟨by kernel_rfl⟩
instance:qv ah 102 0 0:=⟨by kernel_rfl⟩
instance:qv ah 102 1 1:=⟨by kernel_rfl⟩
instance:e8 ah 127 false 1:=⟨by kernel_rfl⟩
instance:nP ah 127 [.int .i64 0,.int .i64 0]:=⟨by kernel_rfl⟩
instance:hy ah 127 2:=⟨by kernel_rfl⟩
instance:e8 ah 137 true 2:=⟨by kernel_rfl⟩
instance:nP ah 144 [.int .i64 0,.int .i64 0,.int .i64 0]:=⟨by kernel_rfl⟩
instance:hy ah 144 3:=⟨by kernel_rfl⟩
instance:e8 ah 180 true 2:=⟨by kernel_rfl⟩
instance:e8 ah 182 true 4:=⟨by kernel_rfl⟩
instance:e8 ah 184 true 13:=⟨by kernel_rfl⟩
instance:e8 ah 188 true 4:=⟨by kernel_rfl⟩
instance:e8 ah 237 true 4:=⟨by kernel_rfl⟩
instance:hy ah 254 5:=⟨by kernel_rfl⟩
instance:e8 ah 288 false 1:=⟨by kernel_rfl⟩
instance:Hj ah 288 .u64:=⟨by kernel_rfl⟩
instance:e8 ah 293 true 3:=⟨by kernel_rfl⟩
instance:qv ah 293 1 2:=⟨by kernel_rfl⟩
instance:nP ah 303 [.slice none 0 0]:=⟨by kernel_rfl⟩
instance:hy ah 303 1:=⟨by kernel_rfl⟩
instance:nP ah 304 [.slice none 0 0]:=⟨by kernel_rfl⟩
instance:hy ah 304 1:=⟨by kernel_rfl⟩
instance:e8 ah 321 true 3:=⟨by kernel_rfl⟩
instance:e8 ah 323 true 10:=⟨by kernel_rfl⟩
instance:e8 ah 346 true 4:=⟨by kernel_rfl⟩
instance:e8 ah 350 true 2:=⟨by kernel_rfl⟩
instance:Enters ah 16:=⟨by kernel_rfl⟩
instance:Enters ah 22:=⟨by kernel_rfl⟩
instance:Enters ah 23:=⟨by kernel_rfl⟩
instance:Enters ah 24:=⟨by kernel_rfl⟩
instance:Enters ah 28:=⟨by kernel_rfl⟩
instance:Enters ah 32:=⟨by kernel_rfl⟩
instance:Enters ah 37:=⟨by kernel_rfl⟩
instance:Enters ah 38:=⟨by kernel_rfl⟩
instance:Enters ah 39:=⟨by kernel_rfl⟩
instance:Enters ah 43:=⟨by kernel_rfl⟩
instance:Enters ah 44:=⟨by kernel_rfl⟩
instance:Enters ah 45:=⟨by kernel_rfl⟩
instance:Enters ah 46:=⟨by kernel_rfl⟩
instance:Enters ah 47:=⟨by kernel_rfl⟩
instance:Enters ah 48:=⟨by kernel_rfl⟩
instance:Enters ah 49:=⟨by kernel_rfl⟩
instance:Enters ah 50:=⟨by kernel_rfl⟩
instance:Enters ah 51:=⟨by kernel_rfl⟩
instance:Enters ah 52:=⟨by kernel_rfl⟩
instance:Enters ah 53:=⟨by kernel_rfl⟩
instance:Enters ah 54:=⟨by kernel_rfl⟩
instance:Enters ah 56:=⟨by kernel_rfl⟩
instance:Enters ah 57:=⟨by kernel_rfl⟩
instance:Enters ah 58:=⟨by kernel_rfl⟩
instance:Enters ah 59:=⟨by kernel_rfl⟩
instance:Enters ah 60:=⟨by kernel_rfl⟩
instance:Enters ah 61:=⟨by kernel_rfl⟩
instance:Enters ah 62:=⟨by kernel_rfl⟩
instance:Enters ah 63:=⟨by kernel_rfl⟩
instance:Enters ah 72:=⟨by kernel_rfl⟩
instance:Enters ah 73:=⟨by kernel_rfl⟩
instance:Enters ah 74:=⟨by kernel_rfl⟩
instance:Enters ah 75:=⟨by kernel_rfl⟩
instance:Enters ah 76:=⟨by kernel_rfl⟩
instance:Enters ah 80:=⟨by kernel_rfl⟩
instance:Enters ah 81:=⟨by kernel_rfl⟩
instance:Enters ah 82:=⟨by kernel_rfl⟩
instance:Enters ah 83:=⟨by kernel_rfl⟩
instance:Enters ah 84:=⟨by kernel_rfl⟩
instance:Enters ah 96:=⟨by kernel_rfl⟩
instance:Enters ah 97:=⟨by kernel_rfl⟩
instance:Enters ah 98:=⟨by kernel_rfl⟩
instance:Enters ah 99:=⟨by kernel_rfl⟩
instance:Enters ah 100:=⟨by kernel_rfl⟩
instance:Enters ah 102:=⟨by kernel_rfl⟩
instance:Enters ah 103:=⟨by kernel_rfl⟩
instance:Enters ah 104:=⟨by kernel_rfl⟩
instance:Enters ah 105:=⟨by kernel_rfl⟩
instance:Enters ah 106:=⟨by kernel_rfl⟩
instance:Enters ah 107:=⟨by kernel_rfl⟩
instance:Enters ah 108:=⟨by kernel_rfl⟩
instance:Enters ah 109:=⟨by kernel_rfl⟩
instance:Enters ah 110:=⟨by kernel_rfl⟩
instance:Enters ah 129:=⟨by kernel_rfl⟩
instance:Enters ah 130:=⟨by kernel_rfl⟩
instance:Enters ah 131:=⟨by kernel_rfl⟩
instance:Enters ah 132:=⟨by kernel_rfl⟩
instance:Enters ah 133:=⟨by kernel_rfl⟩
instance:Enters ah 134:=⟨by kernel_rfl⟩
instance:Enters ah 135:=⟨by kernel_rfl⟩
instance:Enters ah 136:=⟨by kernel_rfl⟩
instance:Enters ah 137:=⟨by kernel_rfl⟩
instance:Enters ah 138:=⟨by kernel_rfl⟩
instance:Enters ah 139:=⟨by kernel_rfl⟩
instance:Enters ah 140:=⟨by kernel_rfl⟩
instance:Enters ah 141:=⟨by kernel_rfl⟩
instance:Enters ah 142:=⟨by kernel_rfl⟩
instance:Enters ah 143:=⟨by kernel_rfl⟩
instance:Enters ah 144:=⟨by kernel_rfl⟩
instance:Enters ah 145:=⟨by kernel_rfl⟩
instance:Enters ah 146:=⟨by kernel_rfl⟩
instance:Enters ah 151:=⟨by kernel_rfl⟩
instance:Enters ah 153:=⟨by kernel_rfl⟩
instance:Enters ah 154:=⟨by kernel_rfl⟩
instance:Enters ah 155:=⟨by kernel_rfl⟩
instance:Enters ah 162:=⟨by kernel_rfl⟩
instance:Enters ah 163:=⟨by kernel_rfl⟩
instance:Enters ah 166:=⟨by kernel_rfl⟩
instance:Enters ah 184:=⟨by kernel_rfl⟩
instance:Enters ah 185:=⟨by kernel_rfl⟩
instance:Enters ah 186:=⟨by kernel_rfl⟩
instance:Enters ah 187:=⟨by kernel_rfl⟩
instance:Enters ah 188:=⟨by kernel_rfl⟩
instance:Enters ah 189:=⟨by kernel_rfl⟩
instance:Enters ah 190:=⟨by kernel_rfl⟩
instance:Enters ah 191:=⟨by kernel_rfl⟩
instance:Enters ah 192:=⟨by kernel_rfl⟩
instance:Enters ah 193:=⟨by kernel_rfl⟩
instance:Enters ah 194:=⟨by kernel_rfl⟩
instance:Enters ah 195:=⟨by kernel_rfl⟩
instance:Enters ah 196:=⟨by kernel_rfl⟩
instance:Enters ah 197:=⟨by kernel_rfl⟩
instance:Enters ah 198:=⟨by kernel_rfl⟩
instance:Enters ah 199:=⟨by kernel_rfl⟩
instance:Enters ah 200:=⟨by kernel_rfl⟩
instance:Enters ah 201:=⟨by kernel_rfl⟩
instance:Enters ah 203:=⟨by kernel_rfl⟩
instance:Enters ah 204:=⟨by kernel_rfl⟩
instance:Enters ah 205:=⟨by kernel_rfl⟩
instance:Enters ah 207:=⟨by kernel_rfl⟩
instance:Enters ah 210:=⟨by kernel_rfl⟩
instance:Enters ah 212:=⟨by kernel_rfl⟩
instance:Enters ah 213:=⟨by kernel_rfl⟩
instance:Enters ah 215:=⟨by kernel_rfl⟩
instance:Enters ah 216:=⟨by kernel_rfl⟩
instance:Enters ah 217:=⟨by kernel_rfl⟩
instance:Enters ah 218:=⟨by kernel_rfl⟩
instance:Enters ah 221:=⟨by kernel_rfl⟩
instance:Enters ah 222:=⟨by kernel_rfl⟩
instance:Enters ah 223:=⟨by kernel_rfl⟩
instance:Enters ah 239:=⟨by kernel_rfl⟩
instance:Enters ah 240:=⟨by kernel_rfl⟩
instance:Enters ah 241:=⟨by kernel_rfl⟩
instance:Enters ah 242:=⟨by kernel_rfl⟩
instance:Enters ah 243:=⟨by kernel_rfl⟩
instance:Enters ah 244:=⟨by kernel_rfl⟩
instance:Enters ah 245:=⟨by kernel_rfl⟩
instance:Enters ah 246:=⟨by kernel_rfl⟩
instance:Enters ah 247:=⟨by kernel_rfl⟩
instance:Enters ah 248:=⟨by kernel_rfl⟩
instance:Enters ah 249:=⟨by kernel_rfl⟩
instance:Enters ah 250:=⟨by kernel_rfl⟩
instance:Enters ah 251:=⟨by kernel_rfl⟩
instance:Enters ah 252:=⟨by kernel_rfl⟩
instance:Enters ah 254:=⟨by kernel_rfl⟩
instance:Enters ah 255:=⟨by kernel_rfl⟩
instance:Enters ah 256:=⟨by kernel_rfl⟩
instance:Enters ah 257:=⟨by kernel_rfl⟩
instance:Enters ah 258:=⟨by kernel_rfl⟩
instance:Enters ah 259:=⟨by kernel_rfl⟩
instance:Enters ah 260:=⟨by kernel_rfl⟩
instance:Enters ah 263:=⟨by kernel_rfl⟩
instance:Enters ah 266:=⟨by kernel_rfl⟩
instance:Enters ah 276:=⟨by kernel_rfl⟩
instance:Enters ah 277:=⟨by kernel_rfl⟩
instance:Enters ah 278:=⟨by kernel_rfl⟩
instance:Enters ah 279:=⟨by kernel_rfl⟩
instance:Enters ah 280:=⟨by kernel_rfl⟩
instance:Enters ah 281:=⟨by kernel_rfl⟩
instance:Enters ah 282:=⟨by kernel_rfl⟩
instance:Enters ah 283:=⟨by kernel_rfl⟩
instance:Enters ah 284:=⟨by kernel_rfl⟩
instance:Enters ah 285:=⟨by kernel_rfl⟩
instance:Enters ah 286:=⟨by kernel_rfl⟩
instance:Enters ah 287:=⟨by kernel_rfl⟩
instance:Enters ah 288:=⟨by kernel_rfl⟩
instance:Enters ah 289:=⟨by kernel_rfl⟩
instance:Enters ah 290:=⟨by kernel_rfl⟩
instance:Enters ah 292:=⟨by kernel_rfl⟩
instance:Enters ah 293:=⟨by kernel_rfl⟩
instance:Enters ah 294:=⟨by kernel_rfl⟩
instance:Enters ah 295:=⟨by kernel_rfl⟩
instance:Enters ah 298:=⟨by kernel_rfl⟩
instance:Enters ah 299:=⟨by kernel_rfl⟩
instance:Enters ah 300:=⟨by kernel_rfl⟩
instance:Enters ah 301:=⟨by kernel_rfl⟩
instance:Enters ah 303:=⟨by kernel_rfl⟩
instance:Enters ah 304:=⟨by kernel_rfl⟩
instance:Enters ah 305:=⟨by kernel_rfl⟩
instance:Enters ah 306:=⟨by kernel_rfl⟩
instance:Enters ah 307:=⟨by kernel_rfl⟩
instance:Enters ah 308:=⟨by kernel_rfl⟩
instance:Enters ah 309:=⟨by kernel_rfl⟩
instance:Enters ah 310:=⟨by kernel_rfl⟩
instance:Enters ah 312:=⟨by kernel_rfl⟩
instance:Enters ah 313:=⟨by kernel_rfl⟩
instance:Enters ah 314:=⟨by kernel_rfl⟩
instance:Enters ah 315:=⟨by kernel_rfl⟩
instance:Enters ah 316:=⟨by kernel_rfl⟩
instance:Enters ah 317:=⟨by kernel_rfl⟩
instance:Enters ah 318:=⟨by kernel_rfl⟩
instance:Enters ah 319:=⟨by kernel_rfl⟩
instance:Enters ah 323:=⟨by kernel_rfl⟩
instance:Enters ah 324:=⟨by kernel_rfl⟩
instance:Enters ah 325:=⟨by kernel_rfl⟩
instance:Enters ah 326:=⟨by kernel_rfl⟩
instance:Enters ah 328:=⟨by kernel_rfl⟩
instance:Enters ah 329:=⟨by kernel_rfl⟩
instance:Enters ah 332:=⟨by kernel_rfl⟩
instance:Enters ah 333:=⟨by kernel_rfl⟩
instance:Enters ah 335:=⟨by kernel_rfl⟩
instance:Enters ah 336:=⟨by kernel_rfl⟩
instance:Enters ah 337:=⟨by kernel_rfl⟩
instance:Enters ah 338:=⟨by kernel_rfl⟩
instance:Enters ah 339:=⟨by kernel_rfl⟩
def tab:z1 where
 ty:=[(0,false,1),(1,false,1),(2,false,1),(3,false,1),(4,false,1),(9,false,1),(20,false,1),(22,false,1),(25,false,1),(26,false,1),(28,false,1),(41,false,1),(42,false,1),(44,true,10),(46,false,1),(50,true,2),(51,false,1),(53,true,2),(60,true,2),(63,true,5),(65,false,1),(67,true,6),(69,false,1),(70,false,1),(71,false,1),(73,true,6),(95,true,5),(97,false,1),(100,false,1),(102,true,13),(104,false,1),(111,true,4),(127,false,1),(130,true,5),(134,false,1),(136,false,1),(137,true,2),(139,false,1),(140,false,1),(143,false,1),(144,false,1),(146,true,1),(148,true,2),(174,false,1),(176,false,1),(178,false,1),(180,true,2),(182,true,4),(184,true,13),(186,false,1),(188,true,4),(191,false,1),(194,false,1),(196,false,1),(199,false,1),(201,true,6),(212,false,1),(213,false,1),(234,false,1),(237,true,4),(254,false,1),(262,false,1),(263,false,1),(281,false,1),(284,false,1),(288,false,1),(289,false,1),(291,false,1),(293,true,3),(298,true,5),(300,false,1),(303,false,1),(304,false,1),(305,false,1),(319,true,6),(321,true,3),(323,true,10),(325,false,1),(326,true,4),(327,false,1),(328,false,1),(330,false,1),(334,false,1),(346,true,4),(350,true,2),(351,false,1),(360,false,1),(366,false,1)]
 zero:=[(1,[.nilFunc]),(2,[.int .i64 0]),(3,[.int .i64 0]),(4,[.bool false]),(9,[.string ByteArray.empty]),(20,[.nilIface]),(22,[.slice none 0 0]),(25,[.nilFunc]),(26,[.pointer none]),(28,[.slice none 0 0]),(41,[.slice none 0 0]),(42,[.slice none 0 0]),(44,[.int .i64 0,.int .i64 0,.int .i64 0,.int .i64 0,.int .i64 0,.int .i64 0,.bool false,.slice none 0 0,.slice none 0 0,.slice none 0 0]),(50,[.int .i64 0,.int .i64 0]),(51,[.slice none 0 0]),(53,[.slice none 0 0,.slice none 0 0]),(60,[.int .i64 0,.int .i64 0]),(63,[.int .i64 0,.int .i64 0,.int .i64 0,.int .i64 0,.int .i64 0]),(65,[.slice none 0 0]),(67,[.slice none 0 0,.slice none 0 0,.int .i64 0,.int .i64 0,.int .i64 0,.int .i64 0]),(69,[.pointer none]),(70,[.int .i64 0]),(73,[.slice none 0 0,.slice none 0 0,.int .i64 0,.int .i64 0,.int .i64 0,.int .i64 0]),(95,[.int .i64 0,.int .i64 0,.int .i64 0,.int .i64 0,.int .i64 0]),(97,[.pointer none]),(100,[.slice none 0 0]),(102,[.slice none 0 0,.int .i64 0,.int .i64 0,.int .i64 0,.int .i64 0,.int .i64 0,.int .i64 0,.bool false,.slice none 0 0,.slice none 0 0,.slice none 0 0,.pointer none,.slice none 0 0]),(104,[.nilFunc]),(111,[.nilFunc,.nilFunc,.nilFunc,.nilFunc]),(127,[.slice none 0 0]),(130,[.slice none 0 0,.int .i64 0,.int .i64 0,.int .i64 0,.pointer none]),(134,[.chan none]),(137,[.slice none 0 0,.slice none 0 0]),(139,[.nilFunc]),(140,[.nilFunc]),(143,[.nilFunc]),(144,[.slice none 0 0]),(146,[.slice none 0 0]),(148,[.slice none 0 0,.int .i64 0]),(176,[.nilFunc]),(178,[.int .u64 0]),(180,[.int .i64 0,.int .u64 0]),(182,[.int .i64 0,.int .u64 0,.int .i64 0,.int .u64 0]),(184,[.int .i64 0,.int .i64 0,.int .u64 0,.int .i64 0,.int .u64 0,.int .i64 0,.int .u64 0,.int .i64 0,.int .u64 0,.int .i64 0,.int .i64 0,.int .i64 0,.int .i64 0]),(186,[.pointer none]),(188,[.int .i64 0,.int .i64 0,.int .i64 0,.int .i64 0]),(194,[.nilFunc]),(201,[.nilFunc,.nilFunc,.nilFunc,.nilFunc,.nilFunc,.nilFunc]),(212,[.chan none]),(213,[.nilFunc]),(237,[.int .i64 0,.int .i64 0,.int .i64 0,.int .i64 0]),(254,[.slice none 0 0]),(262,[.nilFunc]),(263,[.nilFunc]),(288,[.int .u64 0]),(291,[.pointer none]),(293,[.int .i64 0,.int .i64 0,.int .i64 0]),(298,[.int .i64 0,.int .i64 0,.int .i64 0,.int .i64 0,.int .i64 0]),(300,[.map none]),(303,[.slice none 0 0]),(304,[.slice none 0 0]),(305,[.nilFunc]),(319,[.int .i64 0,.int .i64 0,.int .i64 0,.int .i64 0,.bool false,.bool false]),(321,[.int .i64 0,.int .i64 0,.bool false]),(323,[.int .i64 0,.int .i64 0,.int .i64 0,.int .i64 0,.int .i64 0,.int .i64 0,.bool false,.int .i64 0,.int .i64 0,.bool false]),(325,[.nilFunc]),(326,[.nilFunc,.nilFunc,.nilFunc,.nilFunc]),(327,[.int .u32 0]),(334,[.nilFunc]),(346,[.int .i64 0,.int .i64 0,.int .i64 0,.int .i64 0]),(350,[.int .u64 0,.int .u64 0])]
 o3:=[(44,[(0,0),(1,1),(2,2),(3,3),(4,4),(5,5),(6,6),(7,7),(8,8),(9,9)]),(50,[(0,0),(1,1)]),(53,[(0,0),(1,1)]),(60,[(0,0),(1,1)]),(63,[(0,0),(1,2),(2,4)]),(67,[(0,0),(1,1),(2,2),(3,3),(4,4),(5,5)]),(73,[(0,0),(1,1),(2,2),(3,3),(4,4),(5,5)]),(95,[(0,0),(1,2),(2,4)]),(102,[(0,0),(1,1),(2,11),(3,12)]),(130,[(0,0),(1,1),(2,2),(3,3),(4,4)]),(146,[(0,0)]),(148,[(0,0),(1,1)]),(180,[(0,0),(1,1)]),(182,[(0,0),(1,2)]),(184,[(0,0),(1,1),(2,5),(3,9),(4,11)]),(188,[(0,0),(1,2)]),(237,[(0,0),(1,2)]),(293,[(0,0),(1,2)]),(298,[(0,0),(1,4)]),(319,[(0,0),(1,2),(2,4),(3,5)]),(321,[(0,0),(1,1),(2,2)]),(323,[(0,0),(1,2),(2,4),(3,7)]),(346,[(0,0),(1,2)]),(350,[(0,0),(1,1)])]
 oq:=[(111,4,1),(137,2,1),(201,6,1),(326,4,1)]
 jA:=[(44,[(0,1),(1,1),(2,1),(3,1),(4,1),(5,1),(6,1),(7,1),(8,1),(9,1)]),(50,[(0,1),(1,1)]),(53,[(0,1),(1,1)]),(60,[(0,1),(1,1)]),(63,[(0,2),(2,2),(4,1)]),(67,[(0,1),(1,1),(2,1),(3,1),(4,1),(5,1)]),(73,[(0,1),(1,1),(2,1),(3,1),(4,1),(5,1)]),(95,[(0,2),(2,2),(4,1)]),(102,[(0,1),(1,10),(11,1),(12,1)]),(111,[(0,1),(1,1),(2,1),(3,1)]),(130,[(0,1),(1,1),(2,1),(3,1),(4,1)]),(137,[(0,1),(1,1)]),(146,[(0,1)]),(148,[(0,1),(1,1)]),(180,[(0,1),(1,1)]),(182,[(0,2),(2,2)]),(184,[(0,1),(1,4),(5,4),(9,2),(11,2)]),(188,[(0,2),(2,2)]),(201,[(0,1),(1,1),(2,1),(3,1),(4,1),(5,1)]),(237,[(0,2),(2,2)]),(293,[(0,2),(2,1)]),(298,[(0,4),(4,1)]),(319,[(0,2),(2,2),(4,1),(5,1)]),(321,[(0,1),(1,1),(2,1)]),(323,[(0,2),(2,2),(4,3),(7,3)]),(326,[(0,1),(1,1),(2,1),(3,1)]),(346,[(0,2),(2,2)]),(350,[(0,1),(1,1)])]
theorem xX{α β:Type}{g h:α→β}:∀l:List α,l.map g=l.map h→mz (fun p=>g p=h p) l
 | [],_=>trivial
 | a::l,e=>by
  rw[hK,hK,List.cons.injEq] at e;exact⟨e.1,xX l e.2⟩
theorem Nn{α β γ:Type}{k:α→List γ}{g h:α→γ→β}:∀l:List α,(l.map fun p=>(k p).map (g p))=(l.map fun p=>(k p).map (h p))→mz (fun p=>mz (fun q=>g p q=h p q) (k p)) l
 | [],_=>trivial
 | a::l,e=>by
  rw[hK,hK,List.cons.injEq] at e;exact⟨xX _ e.1,Nn l e.2⟩
theorem akW:mz (fun p=>lx ah p.1=some p.2) tab.ty:=xX _ (by kernel_rfl)
theorem akX:mz (fun p=>zeroOf ah p.1=some p.2) tab.zero:=xX _ (by kernel_rfl)
theorem akT:mz (fun p=>DL ah p.1=some p.2) tab.oq:=xX _ (by kernel_rfl)
theorem akV:mz (fun p=>Gf ah p.1=some p.2) tab.jA:=xX _ (by kernel_rfl)
theorem akU:mz (fun p=>mz (fun q=>wu ah p.1 q.1=some q.2) p.2) tab.o3:=Nn _ (by kernel_rfl)
instance:Hr ah tab:=⟨akW,akX,akU,akT,akV⟩
end Go.Proofs.YtklpfooafbjnpaaGreat
namespace Go.Proofs.YtklpfooafbjnpaaGreat
open Go.RowKit
section
variable{P:Program}{s:aB}{ops:Array Oper}{K:aB→Prop}{rest:List Oper}{ty:Nat}{pos:String}{after:Array Edge}{guard:Option (Nat×Bool)}{d:Nat}
theorem Ya{df:Nat}{x:Operand}{k:IntKind}{a c:Int}(hw:want ops ⟨some d,.unOp .neg df x,ty,pos,after,guard⟩ s=some true)(ab:s.look x=some (aQ (.int k a)))(ak:k.wrap (-a)=c)(hd:Nat.blt d s.n=true)(h:bk P ops K rest (s.put (some d) (aQ (.int k c)))):bk P ops K (⟨some d,.unOp .neg df x,ty,pos,after,guard⟩::rest) s:=by
 refine Nk hw ab (fun W => ?_) rfl hd h;rw[←ak,show -a=0-a by omega];cases k <;> rfl
theorem Nj{df dW:Nat}{x y:Operand}{k:IntKind}{a b:Int}(hw:want ops ⟨some d,.binOp .rem df x y dW,ty,pos,after,guard⟩ s=some true)(ab:s.look x=some (aQ (.int k a)))(ai:s.look y=some (aQ (.int k b)))(aF:0≤a)(h1:0<b)(hd:Nat.blt d s.n=true)(h:bk P ops K rest (s.put (some d) (aQ (.int k (a % b))))):bk P ops K (⟨some d,.binOp .rem df x y dW,ty,pos,after,guard⟩::rest) s:=by
 refine qI hw ab ai (fun W => ?_) rfl hd h;have aa:b≠0:=by omega
 have e:a.tmod b=a % b:=Int.tmod_eq_emod_of_nonneg aF;rw[←e];cases k <;> simp[binOp,Op.intDiv,aa] <;> rfl
end
abbrev kd(l1 l2 h1 h2:Int):ag := .w (.agg [.c (.int .i64 l1),.c (.int .i64 l2),.c (.int .i64 h1),.c (.int .i64 h2)])
def dG(a b c d:Int):Bool:=decide (a=c)&&decide (b=d)
theorem tc{a b c d:Int}:dG a b c d=true↔a=c∧b=d:=by unfold dG;rw[eb,cS,cS]
def wm(a b c d a' cE c' d':Int):Bool:=dG a b a' cE&&dG c d c' d'
class C9 (P:Program) (t:TypeId):Prop where
 g:P.eqGuardType P.depth t=false
 h:∀(a b c d:Int) W,(Op.equalIn 10000 t (.agg #[.int .i64 a,.int .i64 b]) (.agg #[.int .i64 c,.int .i64 d])).run P W = .ok (dG a b c d) W
class My (P:Program) (t:TypeId):Prop where
 g:P.eqGuardType P.depth t=false
 h:∀(a b c d a' cE c' d':Int) W,(Op.equalIn 10000 t (.agg #[.int .i64 a,.int .i64 b,.int .i64 c,.int .i64 d]) (.agg #[.int .i64 a',.int .i64 cE,.int .i64 c',.int .i64 d'])).run P W = .ok (wm a b c d a' cE c' d') W
theorem Iv{P:Program}{op:BinOp}{t:TypeId}{x y:Operand}{u v:Array Value}{W:World}(au:P.eqGuardType P.depth t=false):(eqGuard op t x y (.agg u) (.agg v)).run P W = .ok () W:=by
 unfold eqGuard;cases op <;> first|rfl|simp[Sem.run_bind,program,Sem.run,Result.andThen,au]
section
variable{P:Program}{s:aB}{ops:Array Oper}{K:aB→Prop}{rest:List Oper}{ty:Nat}{pos:String}{after:Array Edge}{guard:Option (Nat×Bool)}{d:Nat}
theorem XP{t dW:Nat}{x y:Operand}{a b a' cE:Int} [E:C9 P t](hw:want ops ⟨some d,.binOp .eql t x y dW,ty,pos,after,guard⟩ s=some true)(ab:s.look x=some (bn a b))(ai:s.look y=some (bn a' cE))(hd:Nat.blt d s.n=true)(h:bk P ops K rest (s.put (some d) (bl (dG a b a' cE)))):bk P ops K (⟨some d,.binOp .eql t x y dW,ty,pos,after,guard⟩::rest) s :=
 xV hw ab ai rfl rfl (fun W=>Iv E.g) (fun W=>by rw[run_eql_struct,E.h];rfl) rfl hd h
theorem Yd{t dW:Nat}{x y:Operand}{a b a' cE:Int} [E:C9 P t](hw:want ops ⟨some d,.binOp .neq t x y dW,ty,pos,after,guard⟩ s=some true)(ab:s.look x=some (bn a b))(ai:s.look y=some (bn a' cE))(hd:Nat.blt d s.n=true)(h:bk P ops K rest (s.put (some d) (bl (!dG a b a' cE)))):bk P ops K (⟨some d,.binOp .neq t x y dW,ty,pos,after,guard⟩::rest) s :=
 xV hw ab ai rfl rfl (fun W=>Iv E.g) (fun W=>by rw[run_neq_struct,E.h];rfl) rfl hd h
theorem XO{t dW:Nat}{x y:Operand}{a b c e a' cE c' e':Int} [E:My P t](hw:want ops ⟨some d,.binOp .eql t x y dW,ty,pos,after,guard⟩ s=some true)(ab:s.look x=some (kd a b c e))(ai:s.look y=some (kd a' cE c' e'))(hd:Nat.blt d s.n=true)(h:bk P ops K rest (s.put (some d) (bl (wm a b c e a' cE c' e')))):bk P ops K (⟨some d,.binOp .eql t x y dW,ty,pos,after,guard⟩::rest) s :=
 xV hw ab ai rfl rfl (fun W=>Iv E.g) (fun W=>by rw[run_eql_struct,E.h];rfl) rfl hd h
end
theorem aab(a b c d:Int)(W:World):(Op.equalIn 10000 50 (.agg #[.int .i64 a,.int .i64 b]) (.agg #[.int .i64 c,.int .i64 d])).run ah W = .ok (dG a b c d) W:=by
 unfold dG
 go_simp
 by_cases h1:a=c <;> by_cases h2:b=d <;> simp[h1,h2]
instance amW:C9 ah 50:=⟨by kernel_rfl,aab⟩
theorem aaa(a b c d:Int)(W:World):(Op.equalIn 10000 60 (.agg #[.int .i64 a,.int .i64 b]) (.agg #[.int .i64 c,.int .i64 d])).run ah W = .ok (dG a b c d) W:=by
 unfold dG
 go_simp
 by_cases h1:a=c <;> by_cases h2:b=d <;> simp[h1,h2]
instance amX:C9 ah 60:=⟨by kernel_rfl,aaa⟩
def uI(n:Int):Bool:=decide (-536870912≤n)&&decide (n≤536870912)
theorem OK{n:Int}:uI n=true ↔ -536870912≤n∧n≤536870912:=by unfold uI;rw[eb,cS,cS]
def eC(x y:Int):Bool:=uI x&&uI y
theorem TH{x y:Int}:eC x y=true↔(-536870912≤x∧x≤536870912) ∧ -536870912≤y∧y≤536870912:=by unfold eC;rw[eb,OK,OK]
theorem SN{n:Int}{b:Bool}(aa:uI n=b):aO ah 307 [aL n] (bl b):=by
 have cs:(-536870912≤n∧n≤536870912∧b=true)∨(-536870912≤n∧¬n≤536870912∧b=false)∨(¬ -536870912≤n∧b=false):=by
  rw[←aa];unfold uI
  by_cases h1 : -536870912≤n <;> by_cases h2:n≤536870912 <;> simp[h1,h2]
 clear aa;rcases cs with ⟨h1,h2,rfl⟩|⟨h1,h2,rfl⟩|⟨h1,rfl⟩
 all_goals
  refine bq (f:=307) Tryz.func307 rfl rfl rfl rfl ?_;(repeat first|refine db ?_|(with_reducible apply bT (c:=true));rfl;rfl;(exact ca (by omega))|(with_reducible apply bT (c:=false));rfl;rfl;(exact cm (by omega)))
  ((refine bm rfl (aZ rfl aM) ?_))
  first|exact ag.aV.refl _|exact ag.aV.of_eq (by rw[ca h2];rfl)|exact ag.aV.of_eq (by rw[cm h2];rfl)
theorem tO{x y:Int}{b:Bool}(aa:eC x y=b):aO ah 277 [bn x y] (bl b):=by
 have bc:=SN (n:=x) rfl;have bP:=SN (n:=y) rfl;unfold eC at aa;cases q1:uI x <;> cases q2:uI y <;> rw[q1] at bc <;> rw[q2] at bP <;> rw[q1,q2] at aa <;> subst aa <;> clear q1 q2
 all_goals
  refine bq (f:=277) Tryz.func277 rfl rfl rfl rfl ?_;(refine cQ ?_)
  ((refine bm rfl (aZ rfl aM) ?_))
  exact ag.aV.refl _
def cn(o1 o2 a1 a2 b1 b2:Int):Int:=(a1-o1)*(b2-o2)-(a2-o2)*(b1-o1)
theorem KL{x y A B:Int}(h1 : -A≤x)(h2:x≤A)(ar : -B≤y)(aK:y≤B) : -(A*B)≤x*y∧x*y≤A*B:=by
 have ab:x.natAbs≤A.natAbs:=by omega
 have ai:y.natAbs≤B.natAbs:=by omega
 have h:=Nat.mul_le_mul ab ai;rw[←Int.natAbs_mul,←Int.natAbs_mul] at h;have cp:0≤A*B:=hL (by omega) (by omega);omega
theorem RS{x y:Int}(h1 : -1073741824≤x)(h2:x≤1073741824)(ar : -1073741824≤y)(aK:y≤1073741824) : -1152921504606846976≤x*y∧x*y≤1152921504606846976:=by
 have:=KL h1 h2 ar aK;omega
theorem SF{o1 o2 a1 a2 b1 b2:Int}(aC:eC o1 o2=true)(aX:eC a1 a2=true)(aa:eC b1 b2=true):aO ah 242 [bn o1 o2,bn a1 a2,bn b1 b2] (aL (cn o1 o2 a1 a2 b1 b2)):=by
 have bf:=tO aC;have dL:=tO aX;have lB:=tO aa;rw[TH] at aC aX aa;have m1:=RS (x:=a1-o1) (y:=b2-o2) (by omega) (by omega) (by omega) (by omega);have m2:=RS (x:=a2-o2) (y:=b1-o1) (by omega) (by omega) (by omega) (by omega);refine bq (f:=242) Tryz.func242 rfl rfl rfl rfl ?_;(refine cQ ?_)
 ((refine bm rfl (aZ rfl aM) ?_))
 exact ag.aV.refl _
theorem ag2{o1 o2 a1 a2 b1 b2:Int}(h:(eC o1 o2&&eC a1 a2&&eC b1 b2)=false):aO ah 242 [bn o1 o2,bn a1 a2,bn b1 b2] (aL 0):=by
 have bf:=tO (x:=o1) (y:=o2) rfl;have dL:=tO (x:=a1) (y:=a2) rfl;have lB:=tO (x:=b1) (y:=b2) rfl
 have cs:eC o1 o2=false∨(eC o1 o2=true∧eC a1 a2=false)∨(eC o1 o2=true∧eC a1 a2=true∧eC b1 b2=false):=by
  generalize eC o1 o2=p at *;generalize eC a1 a2=q at *;generalize eC b1 b2=r at *;cases p <;> cases q <;> cases r <;> simp_all
 clear h;rcases cs with h1|⟨h1,h2⟩|⟨h1,h2,ar⟩ <;> simp only[*] at bf dL lB
 all_goals
  refine bq (f:=242) Tryz.func242 rfl rfl rfl rfl ?_;(refine cQ ?_)
  ((refine bm rfl (aZ rfl aM) ?_))
  exact ag.aV.refl _
def s9(o1 o2 a1 a2 b1 b2:Int):Int:=if (eC o1 o2&&eC a1 a2&&eC b1 b2)=true then cn o1 o2 a1 a2 b1 b2 else 0
theorem ag1{o1 o2 a1 a2 b1 b2:Int}:aO ah 242 [bn o1 o2,bn a1 a2,bn b1 b2] (aL (s9 o1 o2 a1 a2 b1 b2)):=by
 unfold s9
 by_cases h:(eC o1 o2&&eC a1 a2&&eC b1 b2)=true
 ·rw[if_pos h];simp only[eb] at h;exact SF h.1.1 h.1.2 h.2
 ·rw[if_neg h];exact ag2 (by simpa using h)
def sJ(n:Int):Int:=if n<0 then -1 else if 0<n then 1 else 0
theorem aho{o1 o2 a1 a2 b1 b2:Int}:aO ah 310 [bn o1 o2,bn a1 a2,bn b1 b2] (aL (sJ (s9 o1 o2 a1 a2 b1 b2))):=by
 have bc:=ag1 (o1:=o1) (o2:=o2) (a1:=a1) (a2:=a2) (b1:=b1) (b2:=b2);generalize s9 o1 o2 a1 a2 b1 b2=c at *;have cs:(c<0∧sJ c = -1)∨(¬c<0∧0<c∧sJ c=1)∨(¬c<0∧¬ 0<c∧sJ c=0):=by unfold sJ;repeat' split <;> omega
 rcases cs with ⟨h1,h⟩|⟨h1,h2,h⟩|⟨h1,h2,h⟩ <;> rw[h] <;> clear h
 all_goals
  refine bq (f:=310) Tryz.func310 rfl rfl rfl rfl ?_;(refine cQ ?_)
  ((refine bm rfl (aZ rfl aM) ?_))
  exact ag.aV.refl _
abbrev hG(a b:Int):Int:=if b<a then b else a
abbrev hE(a b:Int):Int:=if b>a then b else a
theorem agY{a1 a2 b1 b2:Int}:aO ah 309 [bn a1 a2,bn b1 b2] (kd (hG a1 b1) (hG a2 b2) (hE a1 b1) (hE a2 b2)):=by
 refine bq (f:=309) Tryz.func309 rfl rfl rfl rfl ?_;(refine fs ?_)
 ((refine bm rfl (c8 rfl rfl rfl aM) ?_))
 exact ag.aV.refl _
def cX(l1 l2 h1 h2 p1 p2:Int):Bool:=decide (l1≤p1)&&decide (p1≤h1)&&decide (l2≤p2)&&decide (p2≤h2)
theorem abk{l1 l2 h1 h2 p1 p2:Int}:cX l1 l2 h1 h2 p1 p2=true↔l1≤p1∧p1≤h1∧l2≤p2∧p2≤h2:=by unfold cX;simp only[eb,cS,and_assoc]
theorem ag7{l1 l2 h1 h2 p1 p2:Int}{b:Bool}(aa:cX l1 l2 h1 h2 p1 p2=b):aO ah 308 [kd l1 l2 h1 h2,bn p1 p2] (bl b):=by
 have cs:(l1≤p1∧p1≤h1∧l2≤p2∧p2≤h2∧b=true)∨(l1≤p1∧p1≤h1∧l2≤p2∧¬p2≤h2∧b=false)∨(l1≤p1∧p1≤h1∧¬l2≤p2∧b=false)∨(l1≤p1∧¬p1≤h1∧b=false)∨(¬l1≤p1∧b=false):=by
  rw[←aa];unfold cX
  by_cases q1:l1≤p1 <;> by_cases q2:p1≤h1 <;> by_cases q3:l2≤p2 <;> by_cases q4:p2≤h2 <;> simp[q1,q2,q3,q4]
 clear aa;rcases cs with ⟨q1,q2,q3,q4,rfl⟩|⟨q1,q2,q3,q4,rfl⟩|⟨q1,q2,q3,rfl⟩|⟨q1,q2,rfl⟩|⟨q1,rfl⟩
 all_goals
  refine bq (f:=308) Tryz.func308 rfl rfl rfl rfl ?_;(repeat first|refine db ?_|(with_reducible apply bT (c:=true));rfl;rfl;(exact ca (by omega))|(with_reducible apply bT (c:=false));rfl;rfl;(exact cm (by omega)))
  ((refine bm rfl (aZ rfl aM) ?_))
  first|exact ag.aV.refl _|exact ag.aV.of_eq (by rw[ca q4];rfl)|exact ag.aV.of_eq (by rw[cm q4];rfl)
def F0(p1 p2 a1 a2 b1 b2:Int):Bool:=eC p1 p2&&eC a1 a2&&eC b1 b2&&cX (hG a1 b1) (hG a2 b2) (hE a1 b1) (hE a2 b2) p1 p2&&decide (cn a1 a2 b1 b2 p1 p2=0)
theorem aj9{n:Int}:sJ n=0↔n=0:=by unfold sJ;repeat' split <;> omega
theorem ahj{p1 p2 a1 a2 b1 b2:Int}{b:Bool}(aa:F0 p1 p2 a1 a2 b1 b2=b):aO ah 278 [bn p1 p2,bn a1 a2,bn b1 b2] (bl b):=by
 have bf:=tO (x:=p1) (y:=p2) rfl;have dL:=tO (x:=a1) (y:=a2) rfl;have lB:=tO (x:=b1) (y:=b2) rfl;have H1:=agY (a1:=a1) (a2:=a2) (b1:=b1) (b2:=b2);have dD:=ag7 (l1:=hG a1 b1) (l2:=hG a2 b2) (h1:=hE a1 b1) (h2:=hE a2 b2) (p1:=p1) (p2:=p2) rfl;have sW:=aho (o1:=a1) (o2:=a2) (a1:=b1) (a2:=b2) (b1:=p1) (b2:=p2);unfold F0 at aa
 have cs:(eC p1 p2=false∧b=false)∨(eC p1 p2=true∧eC a1 a2=false∧b=false)∨(eC p1 p2=true∧eC a1 a2=true∧eC b1 b2=false∧b=false)
   ∨ (eC p1 p2=true∧eC a1 a2=true∧eC b1 b2=true∧cX (hG a1 b1) (hG a2 b2) (hE a1 b1) (hE a2 b2) p1 p2=false∧b=false)
   ∨ (eC p1 p2=true∧eC a1 a2=true∧eC b1 b2=true∧cX (hG a1 b1) (hG a2 b2) (hE a1 b1) (hE a2 b2) p1 p2=true∧b=decide (sJ (s9 a1 a2 b1 b2 p1 p2)=0)):=by
  have e:decide (sJ (s9 a1 a2 b1 b2 p1 p2)=0)=decide (s9 a1 a2 b1 b2 p1 p2=0):=by rw[oN,cS,cS,aj9]
  rw[e];unfold s9;generalize cn a1 a2 b1 b2 p1 p2=c at *;generalize eC p1 p2=da at *;generalize eC a1 a2=de at *;generalize eC b1 b2=k2 at *;generalize cX _ _ _ _ p1 p2=nM at *;cases da <;> cases de <;> cases k2 <;> cases nM <;> simp_all
 clear aa;generalize cX _ _ _ _ p1 p2=nM at *;generalize hG a1 b1=i1 at *;generalize hG a2 b2=i2 at *;generalize hE a1 b1=i3 at *;generalize hE a2 b2=i4 at *;generalize sJ (s9 a1 a2 b1 b2 p1 p2)=t at *;rcases cs with ⟨h1,rfl⟩|⟨h1,h2,rfl⟩|⟨h1,h2,ar,rfl⟩|⟨h1,h2,ar,rfl,rfl⟩|⟨h1,h2,ar,rfl,rfl⟩ <;> simp only[*] at bf dL lB
 all_goals
  refine bq (f:=278) Tryz.func278 rfl rfl rfl rfl ?_;(refine cQ ?_)
  ((refine bm rfl (aZ rfl aM) ?_))
  exact ag.aV.refl _
end Go.Proofs.YtklpfooafbjnpaaGreat
namespace Go.Proofs.YtklpfooafbjnpaaGreat
def c4(x y:Int):Bool:=decide (x≤134217728)&&decide (y≤134217728)&&decide (-134217728≤x)&&decide (-134217728≤y)
theorem tY{x y:Int}:c4 x y=true↔(-134217728≤x∧x≤134217728) ∧ -134217728≤y∧y≤134217728:=by
  unfold c4;simp only[eb,cS];omega
def dI(a1 a2 b1 b2:Int):Prop:=a1<b1∨(a1=b1∧a2≤b2)
instance (a1 a2 b1 b2:Int):Decidable (dI a1 a2 b1 b2):=by unfold dI;exact inferInstance
theorem dI.Lq{a1 a2:Int}:dI a1 a2 a1 a2 := .inr ⟨rfl,oM _⟩
theorem dI.trans{a1 a2 b1 b2 c1 c2:Int}(h:dI a1 a2 b1 b2)(k:dI b1 b2 c1 c2):dI a1 a2 c1 c2:=by unfold dI at *;omega
theorem dI.total(a1 a2 b1 b2:Int):dI a1 a2 b1 b2∨dI b1 b2 a1 a2:=by unfold dI;omega
theorem dI.DK{a1 a2 b1 b2:Int}(h:dI a1 a2 b1 b2)(k:dI b1 b2 a1 a2):a1=b1∧a2=b2:=by unfold dI at *;omega
def tC(p1 p2 a1 a2 b1 b2:Int):Prop:=hG a1 b1≤p1∧p1≤hE a1 b1∧hG a2 b2≤p2∧p2≤hE a2 b2
theorem NI{s1 s2 t1 t2 p1 p2:Int}(hf:dI s1 s2 t1 t2)(ak:cn s1 s2 t1 t2 p1 p2=0):tC p1 p2 s1 s2 t1 t2↔dI s1 s2 p1 p2∧dI p1 p2 t1 t2:=by
  unfold cn at ak;have nl:(t1-s1)*(p2-s2)=(t2-s2)*(p1-s1):=by omega
  unfold tC hG hE dI at *
  by_cases h1:s1=t1
  · subst h1
    have e:(t2-s2)*(p1-s1)=0:=by rw[←nl];simp
    rcases tV.1 e with e|e
    · constructor
      · intro h;split at h <;> (try split at h) <;> (try split at h) <;> (try split at h) <;> omega
      · intro h;split <;> (try split) <;> (try split) <;> (try split) <;> omega
    · constructor
      · intro h;split at h <;> (try split at h) <;> (try split at h) <;> (try split at h) <;> omega
      · intro h;split <;> (try split) <;> (try split) <;> (try split) <;> omega
  · have h2:s1<t1:=by omega
    have hd:0<t1-s1:=by omega
    rw[if_neg (show ¬t1<s1 by omega),if_pos (show t1>s1 by omega)]
   
    have key:s1≤p1→p1≤t1→(if t2<s2 then t2 else s2)≤p2∧p2≤(if t2>s2 then t2 else s2):=by
      intro bB cl
      by_cases g:t2<s2
      · rw[if_pos g,if_neg (by omega)]
        have a1:(t2-s2)*(t1-s1)≤(t2-s2)*(p1-s1):=Int.mul_le_mul_of_nonpos_left (by omega) (by omega);have a2:(t2-s2)*(p1-s1)≤0:=Int.mul_nonpos_of_nonpos_of_nonneg (by omega) (by omega);rw[←nl] at a1 a2;rw[kV (t2-s2)] at a1;have b1:=Int.le_of_mul_le_mul_left a1 hd
        have b2:p2-s2≤0:=by
          have:(t1-s1)*(p2-s2)≤(t1-s1)*0:=by omega
          exact Int.le_of_mul_le_mul_left this hd
        omega
      · rw[if_neg g]
        have a1:(t2-s2)*(p1-s1)≤(t2-s2)*(t1-s1):=sB (by omega) (by omega);have a2:0≤(t2-s2)*(p1-s1):=hL (by omega) (by omega);rw[←nl] at a1 a2;rw[kV (t2-s2)] at a1;have b1:=Int.le_of_mul_le_mul_left a1 hd
        have b2:0≤p2-s2:=by
          have:(t1-s1)*0≤(t1-s1)*(p2-s2):=by omega
          exact Int.le_of_mul_le_mul_left this hd
        split <;> omega
    constructor
    · rintro⟨bB,cl,ju,lp⟩
      constructor
      · by_cases g:s1<p1
        · exact .inl g
        · right
          have:p1=s1:=by omega
          subst this;have:(t1-p1)*(p2-s2)=0:=by rw[nl];simp
          rcases tV.1 this with e|e <;> omega
      · by_cases g:p1<t1
        · exact .inl g
        · right
          have:p1=t1:=by omega
          subst this;rw[kV (t2-s2)] at nl;have:=Int.eq_of_mul_eq_mul_left (show p1-s1≠0 by omega) nl;omega
    · rintro⟨bB,cl⟩
      have Kg:s1≤p1:=by omega
      have Kh:p1≤t1:=by omega
      exact⟨Kg,Kh,(key Kg Kh).1,(key Kg Kh).2⟩
def dE(p1 p2 s1 s2 t1 t2:Int):Prop:=cn s1 s2 t1 t2 p1 p2=0∧tC p1 p2 s1 s2 t1 t2
theorem xa{s1 s2 t1 t2 p1 p2:Int}(hf:dI s1 s2 t1 t2):dE p1 p2 s1 s2 t1 t2↔cn s1 s2 t1 t2 p1 p2=0∧dI s1 s2 p1 p2∧dI p1 p2 t1 t2:=by
  unfold dE
  constructor
  · rintro⟨h,k⟩;exact⟨h,(NI hf h).1 k⟩
  · rintro⟨h,k⟩;exact⟨h,(NI hf h).2 k⟩
theorem H5(a1 a2 b1 b2:Int):cn a1 a2 b1 b2 a1 a2=0:=by unfold cn;grind
theorem N7(a1 a2 b1 b2:Int):cn a1 a2 b1 b2 b1 b2=0:=by unfold cn;grind
theorem vf{s1 s2 t1 t2:Int}(hf:dI s1 s2 t1 t2):dE s1 s2 s1 s2 t1 t2:=(xa hf).2 ⟨H5 ..,.Lq,hf⟩
theorem ve{s1 s2 t1 t2:Int}(hf:dI s1 s2 t1 t2):dE t1 t2 s1 s2 t1 t2:=(xa hf).2 ⟨N7 ..,hf,.Lq⟩
theorem Cc{p1 p2 s1 s2:Int}(h:dE p1 p2 s1 s2 s1 s2):p1=s1∧p2=s2:=by
  obtain⟨_,h1,h2⟩:=(xa dI.Lq).1 h;have:=dI.DK h1 h2;omega
def qh(s1 s2 bV b6 t1 t2 t3 t4:Int):Int:=(bV-s1)*(t4-t2)-(b6-s2)*(t3-t1)
theorem vh{s1 s2 bV b6 t1 t2 t3 t4 p1 p2 cr dK:Int}(hs:dI s1 s2 bV b6)(aD:dI t1 t2 t3 t4)(hw:qh s1 s2 bV b6 t1 t2 t3 t4=0)
    (ps:dE p1 p2 s1 s2 bV b6) (qj:dE p1 p2 t1 t2 t3 t4) (rq:dE cr dK s1 s2 bV b6) (ho:dI t1 t2 cr dK) (aiQ:dI cr dK t3 t4):dE cr dK t1 t2 t3 t4:=by
  by_cases hd:s1=bV∧s2=b6
  · obtain⟨rfl,rfl⟩:=hd
    obtain⟨rfl,rfl⟩:=Cc ps;obtain⟨rfl,rfl⟩:=Cc rq;exact qj
  · refine(xa aD).2 ⟨?_,ho,aiQ⟩
    have a:=ps.1;have b:=qj.1;have c:=rq.1;unfold cn qh at *;have d1:(bV-s1)*((t3-t1)*(dK-t2)-(t4-t2)*(cr-t1))=0:=by grind
    have d2:(b6-s2)*((t3-t1)*(dK-t2)-(t4-t2)*(cr-t1))=0:=by grind
    rcases tV.1 d1 with e|e
    · rcases tV.1 d2 with f|f
      · omega
      · exact f
    · exact e
theorem NJ{x y A B D:Int}(e4:0<D)(e:D=A-B):(hG x y*D≤y*A-x*B∧y*A-x*B≤hE x y*D)↔(x=y∨(B≤0∧0≤A)):=by
  subst e;unfold hG hE
  by_cases h:x=y
  · subst h
    have:x*(A-B)=x*A-x*B:=Int.mul_sub ..;simp[this]
  · have pos:∀ {u v:Int},0<u→(0≤u*v↔0≤v):=by
      intro u v hu
      constructor
      · intro k
        have k':u*0≤u*v:=by omega
        exact Int.le_of_mul_le_mul_left k' hu
      · intro k;exact hL (by omega) k
    by_cases g:x<y
    · rw[if_neg (by omega),if_pos (show y>x from g)]
      have hu:0<y-x:=by omega
      have aI:y*A-x*B-x*(A-B)=(y-x)*A:=by grind
      have aN:y*(A-B)-(y*A-x*B)=(y-x)*(-B):=by grind
      have p1:=pos (v:=A) hu;have p2:=pos (v := -B) hu;omega
    · rw[if_pos (by omega),if_neg (by omega)]
      have hu:0<x-y:=by omega
      have aI:x*(A-B)-(y*A-x*B)=(x-y)*A:=by grind
      have aN:y*A-x*B-y*(A-B)=(x-y)*(-B):=by grind
      have p1:=pos (v:=A) hu;have p2:=pos (v := -B) hu;omega
def lZ(n d a b:Int):Prop:=hG a b*d≤n∧n≤hE a b*d
theorem DX{x y u v A B D:Int}(e4:0<D)(e:D=A-B)(cz:¬(x=y∧u=v)):(lZ (y*A-x*B) D x y∧lZ (v*A-u*B) D u v)↔(B≤0∧0≤A):=by
  unfold lZ;rw[NJ e4 e,NJ e4 e];omega
theorem s6{n d a b:Int}:lZ n d a b↔lZ n d b a:=by
  unfold lZ hG hE
  by_cases h:a=b
  · subst h;rfl
  · by_cases g:a<b
    · rw[if_neg (by omega),if_pos (show b>a from g),if_pos g,if_neg (by omega)]
    · rw[if_pos (show b<a by omega),if_neg (by omega),if_neg g,if_pos (by omega)]
structure fR where
  k:Int
  n:Int
  d:Int
  m:Int
  e:Int
  p1:Int
  p2:Int
  q1:Int
  q2:Int
def iL:fR:=⟨0,0,0,0,0,0,0,0,0⟩
def j5(n d m e:Int):fR:=⟨1,n,d,m,e,0,0,0,0⟩
def uv(p1 p2 q1 q2:Int):fR:=⟨2,0,0,0,0,p1,p2,q1,q2⟩
def kw(n d:Int):Int:=if d<0 then -n else n
def jy(d:Int):Int:=if d<0 then -d else d
theorem sk{d:Int}(h:d≠0)(n:Int):kw (-n) (-d)=kw n d:=by unfold kw;split <;> split <;> omega
theorem B9(d:Int):jy (-d)=jy d:=by unfold jy;split <;> split <;> omega
theorem Sc{d:Int}(h:d≠0):0<jy d:=by unfold jy;split <;> omega
def kR(a1 a2 b1 b2 c1 c2 d1 d2:Int):Int:=((b2-a2)*a1+(a1-b1)*a2)*(c1-d1)-(a1-b1)*((d2-c2)*c1+(c1-d1)*c2)
def kS(a1 a2 b1 b2 c1 c2 d1 d2:Int):Int:=(b2-a2)*((d2-c2)*c1+(c1-d1)*c2)-((b2-a2)*a1+(a1-b1)*a2)*(d2-c2)
def dm(a1 a2 b1 b2 c1 c2 d1 d2:Int):Int:=(b2-a2)*(c1-d1)-(a1-b1)*(d2-c2)
theorem Vx(a1 a2 b1 b2 c1 c2 d1 d2:Int):dm a1 a2 b1 b2 c1 c2 d1 d2=qh a1 a2 b1 b2 c1 c2 d1 d2:=by unfold dm qh;grind
section
variable(a1 a2 b1 b2 c1 c2 d1 d2:Int)
theorem GZ:dm b1 b2 a1 a2 c1 c2 d1 d2 = - dm a1 a2 b1 b2 c1 c2 d1 d2:=by unfold dm;grind
theorem CV:dm a1 a2 b1 b2 d1 d2 c1 c2 = - dm a1 a2 b1 b2 c1 c2 d1 d2:=by unfold dm;grind
theorem G0:dm c1 c2 d1 d2 a1 a2 b1 b2 = - dm a1 a2 b1 b2 c1 c2 d1 d2:=by unfold dm;grind
theorem aga:kR b1 b2 a1 a2 c1 c2 d1 d2 = - kR a1 a2 b1 b2 c1 c2 d1 d2:=by unfold kR;grind
theorem agb:kR a1 a2 b1 b2 d1 d2 c1 c2 = - kR a1 a2 b1 b2 c1 c2 d1 d2:=by unfold kR;grind
theorem RW:kR c1 c2 d1 d2 a1 a2 b1 b2 = - kR a1 a2 b1 b2 c1 c2 d1 d2:=by unfold kR;grind
theorem agc:kS b1 b2 a1 a2 c1 c2 d1 d2 = - kS a1 a2 b1 b2 c1 c2 d1 d2:=by unfold kS;grind
theorem agd:kS a1 a2 b1 b2 d1 d2 c1 c2 = - kS a1 a2 b1 b2 c1 c2 d1 d2:=by unfold kS;grind
theorem RX:kS c1 c2 d1 d2 a1 a2 b1 b2 = - kS a1 a2 b1 b2 c1 c2 d1 d2:=by unfold kS;grind
theorem KO:c1*cn a1 a2 b1 b2 d1 d2-d1*cn a1 a2 b1 b2 c1 c2=kR a1 a2 b1 b2 c1 c2 d1 d2:=by unfold kR cn;grind
theorem KP:c2*cn a1 a2 b1 b2 d1 d2-d2*cn a1 a2 b1 b2 c1 c2=kS a1 a2 b1 b2 c1 c2 d1 d2:=by unfold kS cn;grind
theorem Mh:cn a1 a2 b1 b2 d1 d2-cn a1 a2 b1 b2 c1 c2=dm a1 a2 b1 b2 c1 c2 d1 d2:=by unfold dm cn;grind
end
def four(a1 a2 b1 b2 c1 c2 d1 d2 x y d:Int):Prop:=lZ x d a1 b1∧lZ y d a2 b2∧lZ x d c1 d1∧lZ y d c2 d2
instance (n d a b:Int):Decidable (lZ n d a b):=by unfold lZ;exact inferInstance
instance (a1 a2 b1 b2 c1 c2 d1 d2 x y d:Int):Decidable (four a1 a2 b1 b2 c1 c2 d1 d2 x y d):=by unfold four;exact inferInstance
theorem BK{α:Type}{p q:Prop} [Decidable p] [Decidable q]{a b:α}(h:p↔q):(if p then a else b)=if q then a else b:=by
  by_cases k:p
  · rw[if_pos k,if_pos (h.1 k)]
  · rw[if_neg k,if_neg fun g=>k (h.2 g)]
def va(a1 a2 b1 b2 c1 c2 d1 d2 x y d:Int):fR:=if four a1 a2 b1 b2 c1 c2 d1 d2 x y d then j5 x d y d else iL
def od(a1 a2 b1 b2 c1 c2 d1 d2:Int):fR :=
  va a1 a2 b1 b2 c1 c2 d1 d2 (kw (kR a1 a2 b1 b2 c1 c2 d1 d2) (dm a1 a2 b1 b2 c1 c2 d1 d2)) (kw (kS a1 a2 b1 b2 c1 c2 d1 d2) (dm a1 a2 b1 b2 c1 c2 d1 d2)) (jy (dm a1 a2 b1 b2 c1 c2 d1 d2))
theorem afF{a1 a2 b1 b2 c1 c2 d1 d2:Int}(h:dm a1 a2 b1 b2 c1 c2 d1 d2≠0):od b1 b2 a1 a2 c1 c2 d1 d2=od a1 a2 b1 b2 c1 c2 d1 d2:=by
  unfold od;rw[GZ,aga,agc,sk h,sk h,B9];unfold va four;exact BK (by rw[s6 (a:=b1),s6 (a:=b2)])
theorem afG{a1 a2 b1 b2 c1 c2 d1 d2:Int}(h:dm a1 a2 b1 b2 c1 c2 d1 d2≠0):od a1 a2 b1 b2 d1 d2 c1 c2=od a1 a2 b1 b2 c1 c2 d1 d2:=by
  unfold od;rw[CV,agb,agd,sk h,sk h,B9];unfold va four;exact BK (by rw[s6 (a:=d1),s6 (a:=d2)])
theorem afH{a1 a2 b1 b2 c1 c2 d1 d2:Int}(h:dm a1 a2 b1 b2 c1 c2 d1 d2≠0):od c1 c2 d1 d2 a1 a2 b1 b2=od a1 a2 b1 b2 c1 c2 d1 d2:=by
  unfold od;rw[G0,RW,RX,sk h,sk h,B9];unfold va four;refine BK ?_
  constructor
  · rintro⟨h1,h2,ar,aK⟩;exact⟨ar,aK,h1,h2⟩
  · rintro⟨h1,h2,ar,aK⟩;exact⟨ar,aK,h1,h2⟩
def same(m n:Int):Prop:=(0<m∧0<n)∨(m<0∧n<0)
instance (m n:Int):Decidable (same m n):=by unfold same;exact inferInstance
theorem Vw{a1 a2 b1 b2 c1 c2 d1 d2:Int}(h:dm a1 a2 b1 b2 c1 c2 d1 d2≠0):¬(a1=b1∧a2=b2)∧¬(c1=d1∧c2=d2):=by
  refine⟨?_,?_⟩
  · rintro⟨rfl,rfl⟩;apply h;unfold dm;simp
  · rintro⟨rfl,rfl⟩;apply h;unfold dm;simp
theorem US{a1 a2 b1 b2 c1 c2 d1 d2:Int}(h:dm a1 a2 b1 b2 c1 c2 d1 d2≠0) :
    (lZ (kw (kR a1 a2 b1 b2 c1 c2 d1 d2) (dm a1 a2 b1 b2 c1 c2 d1 d2)) (jy (dm a1 a2 b1 b2 c1 c2 d1 d2)) c1 d1∧lZ (kw (kS a1 a2 b1 b2 c1 c2 d1 d2) (dm a1 a2 b1 b2 c1 c2 d1 d2)) (jy (dm a1 a2 b1 b2 c1 c2 d1 d2)) c2 d2)↔¬same (cn a1 a2 b1 b2 c1 c2) (cn a1 a2 b1 b2 d1 d2):=by
  have cz:=(Vw h).2;have aI:=KO a1 a2 b1 b2 c1 c2 d1 d2;have aN:=KP a1 a2 b1 b2 c1 c2 d1 d2;have cc:=Mh a1 a2 b1 b2 c1 c2 d1 d2;generalize kR a1 a2 b1 b2 c1 c2 d1 d2=X at *;generalize kS a1 a2 b1 b2 c1 c2 d1 d2=Y at *;generalize dm a1 a2 b1 b2 c1 c2 d1 d2=w at *;generalize cn a1 a2 b1 b2 c1 c2=C at *;generalize cn a1 a2 b1 b2 d1 d2=D at *;unfold kw jy same
  by_cases g:w<0
  · rw[if_pos g,if_pos g,if_pos g,s6 (a:=c1),s6 (a:=c2)]
    have aY:=DX (x:=d1) (y:=c1) (u:=d2) (v:=c2) (A := -D) (B := -C) (D := -w) (by omega) (by omega) (by omega);have f1:c1 * -D-d1 * -C = -X:=by rw[←aI];simp only[Int.mul_neg];omega
    have f2:c2 * -D-d2 * -C = -Y:=by rw[←aN];simp only[Int.mul_neg];omega
    rw[f1,f2] at aY;rw[aY];omega
  · rw[if_neg g,if_neg g,if_neg g,s6 (a:=c1),s6 (a:=c2)]
    have aY:=DX (x:=d1) (y:=c1) (u:=d2) (v:=c2) (A:=D) (B:=C) (D:=w) (by omega) (by omega) (by omega);rw[aI,aN] at aY;rw[aY];omega
theorem aki{a1 a2 b1 b2 c1 c2 d1 d2:Int}(h:dm a1 a2 b1 b2 c1 c2 d1 d2≠0) :
    (lZ (kw (kR a1 a2 b1 b2 c1 c2 d1 d2) (dm a1 a2 b1 b2 c1 c2 d1 d2)) (jy (dm a1 a2 b1 b2 c1 c2 d1 d2)) a1 b1∧lZ (kw (kS a1 a2 b1 b2 c1 c2 d1 d2) (dm a1 a2 b1 b2 c1 c2 d1 d2)) (jy (dm a1 a2 b1 b2 c1 c2 d1 d2)) a2 b2)↔¬same (cn c1 c2 d1 d2 a1 a2) (cn c1 c2 d1 d2 b1 b2):=by
  have aJ:dm c1 c2 d1 d2 a1 a2 b1 b2≠0:=by rw[G0];omega
  have:=US aJ;rw[RW,RX,G0,sk h,sk h,B9] at this;exact this
theorem aaq{a1 a2 b1 b2 c1 c2 d1 d2:Int}(h:dm a1 a2 b1 b2 c1 c2 d1 d2≠0) :
    four a1 a2 b1 b2 c1 c2 d1 d2 (kw (kR a1 a2 b1 b2 c1 c2 d1 d2) (dm a1 a2 b1 b2 c1 c2 d1 d2)) (kw (kS a1 a2 b1 b2 c1 c2 d1 d2) (dm a1 a2 b1 b2 c1 c2 d1 d2)) (jy (dm a1 a2 b1 b2 c1 c2 d1 d2))↔¬(same (cn a1 a2 b1 b2 c1 c2) (cn a1 a2 b1 b2 d1 d2)∨same (cn c1 c2 d1 d2 a1 a2) (cn c1 c2 d1 d2 b1 b2)):=by
  unfold four;have p:=US h;have q:=aki h
  constructor
  · rintro⟨h1,h2,ar,aK⟩ (g|g)
    · exact p.1 ⟨ar,aK⟩ g
    · exact q.1 ⟨h1,h2⟩ g
  · intro g
    obtain⟨ar,aK⟩:=p.2 fun k=>g (.inl k);obtain⟨h1,h2⟩:=q.2 fun k=>g (.inr k);exact⟨h1,h2,ar,aK⟩
def eV(a1 a2 b1 b2:Int):Int:=if dI a1 a2 b1 b2 then a1 else b1
def eE(a1 a2 b1 b2:Int):Int:=if dI a1 a2 b1 b2 then a2 else b2
def ej(a1 a2 b1 b2:Int):Int:=if dI a1 a2 b1 b2 then b1 else a1
def ee(a1 a2 b1 b2:Int):Int:=if dI a1 a2 b1 b2 then b2 else a2
theorem oB(a1 a2 b1 b2:Int):(eV a1 a2 b1 b2=a1∧eE a1 a2 b1 b2=a2∧ej a1 a2 b1 b2=b1∧ee a1 a2 b1 b2=b2∧dI a1 a2 b1 b2)∨(eV a1 a2 b1 b2=b1∧eE a1 a2 b1 b2=b2∧ej a1 a2 b1 b2=a1∧ee a1 a2 b1 b2=a2∧dI b1 b2 a1 a2):=by
  unfold eV eE ej ee
  by_cases h:dI a1 a2 b1 b2
  · simp[h]
  · simp[h,(dI.total a1 a2 b1 b2).resolve_left h]
theorem yF(a1 a2 b1 b2:Int):dI (eV a1 a2 b1 b2) (eE a1 a2 b1 b2) (ej a1 a2 b1 b2) (ee a1 a2 b1 b2):=by
  rcases oB a1 a2 b1 b2 with ⟨h1,h2,ar,aK,h⟩|⟨h1,h2,ar,aK,h⟩ <;> rw[h1,h2,ar,aK] <;> exact h
theorem Ro(a1 a2 b1 b2:Int):eV b1 b2 a1 a2=eV a1 a2 b1 b2∧eE b1 b2 a1 a2=eE a1 a2 b1 b2∧ej b1 b2 a1 a2=ej a1 a2 b1 b2∧ee b1 b2 a1 a2=ee a1 a2 b1 b2:=by
  rcases oB a1 a2 b1 b2 with ⟨h1,h2,ar,aK,h⟩|⟨h1,h2,ar,aK,h⟩ <;> rcases oB b1 b2 a1 a2 with ⟨bB,cl,ju,lp,k⟩|⟨bB,cl,ju,lp,k⟩ <;> rw[h1,h2,ar,aK,bB,cl,ju,lp] <;> (try have:=dI.DK h k) <;> simp_all
theorem Cb{p1 p2 a1 a2 b1 b2:Int}:dE p1 p2 b1 b2 a1 a2↔dE p1 p2 a1 a2 b1 b2:=by
  unfold dE tC;have e:cn b1 b2 a1 a2 p1 p2 = - cn a1 a2 b1 b2 p1 p2:=by unfold cn;grind
  have m:∀x y:Int,hG x y=hG y x:=fun x y=>by unfold hG;split <;> split <;> omega
  have n:∀x y:Int,hE x y=hE y x:=fun x y=>by unfold hE;split <;> split <;> omega
  rw[e,m a1,m a2,n a1,n a2]
  constructor <;> rintro⟨h,k⟩ <;> exact⟨by omega,k⟩
instance (p1 p2 a1 a2 b1 b2:Int):Decidable (tC p1 p2 a1 a2 b1 b2):=by unfold tC;exact inferInstance
instance (p1 p2 a1 a2 b1 b2:Int):Decidable (dE p1 p2 a1 a2 b1 b2):=by unfold dE;exact inferInstance
theorem Cd{p1 p2 a1 a2 b1 b2:Int}:dE p1 p2 (eV a1 a2 b1 b2) (eE a1 a2 b1 b2) (ej a1 a2 b1 b2) (ee a1 a2 b1 b2)↔dE p1 p2 a1 a2 b1 b2:=by
  rcases oB a1 a2 b1 b2 with ⟨h1,h2,ar,aK,h⟩|⟨h1,h2,ar,aK,h⟩ <;> rw[h1,h2,ar,aK];exact Cb
theorem ain{s1 s2 bV b6 t1 t2 t3 t4:Int}:qh t1 t2 t3 t4 s1 s2 bV b6 = - qh s1 s2 bV b6 t1 t2 t3 t4:=by unfold qh;grind
theorem Rp{s1 s2 bV b6 t1 t2 t3 t4 p1 p2:Int}(hs:dI s1 s2 bV b6)(aD:dI t1 t2 t3 t4)(hw:qh s1 s2 bV b6 t1 t2 t3 t4=0)(ps:dE p1 p2 s1 s2 bV b6)(qj:dE p1 p2 t1 t2 t3 t4) :
    dE (ej s1 s2 t1 t2) (ee s1 s2 t1 t2) s1 s2 bV b6∧dE (ej s1 s2 t1 t2) (ee s1 s2 t1 t2) t1 t2 t3 t4∧dE (eV bV b6 t3 t4) (eE bV b6 t3 t4) s1 s2 bV b6∧dE (eV bV b6 t3 t4) (eE bV b6 t3 t4) t1 t2 t3 t4
    ∧ dI (ej s1 s2 t1 t2) (ee s1 s2 t1 t2) p1 p2∧dI p1 p2 (eV bV b6 t3 t4) (eE bV b6 t3 t4):=by
  obtain⟨_,eF,zg⟩:=(xa hs).1 ps;obtain⟨_,t0,t9⟩:=(xa aD).1 qj;have nu:qh t1 t2 t3 t4 s1 s2 bV b6=0:=by rw[ain];omega
  rcases oB s1 s2 t1 t2 with ⟨_,_,ar,aK,h⟩|⟨_,_,ar,aK,h⟩ <;> rcases oB bV b6 t3 t4 with ⟨bB,cl,_,_,k⟩|⟨bB,cl,_,_,k⟩ <;> rw[ar,aK,bB,cl]
  · exact⟨vh aD hs nu qj ps (vf aD) h (t0.trans zg),vf aD,ve hs,vh hs aD hw ps qj (ve hs) (t0.trans zg) k,t0,zg⟩
  · exact⟨vh aD hs nu qj ps (vf aD) h (t0.trans zg),vf aD,vh aD hs nu qj ps (ve aD) (eF.trans t9) k,ve aD,t0,t9⟩
  · exact⟨vf hs,vh hs aD hw ps qj (vf hs) h (eF.trans t9),ve hs,vh hs aD hw ps qj (ve hs) (t0.trans zg) k,eF,zg⟩
  · exact⟨vf hs,vh hs aD hw ps qj (vf hs) h (eF.trans t9),vh aD hs nu qj ps (ve aD) (eF.trans t9) k,ve aD,eF,t9⟩
def wS(f1 f2 g1 g2:Int):fR:=if f1=g1∧f2=g2 then j5 f1 1 f2 1 else uv f1 f2 g1 g2
def inl(s1 s2 bV b6 t1 t2 t3 t4:Int):fR :=
  if dE (ej s1 s2 t1 t2) (ee s1 s2 t1 t2) s1 s2 bV b6∧dE (ej s1 s2 t1 t2) (ee s1 s2 t1 t2) t1 t2 t3 t4 then wS (ej s1 s2 t1 t2) (ee s1 s2 t1 t2) (eV bV b6 t3 t4) (eE bV b6 t3 t4) else iL
def wT(a1 a2 b1 b2 c1 c2 d1 d2:Int):fR:=inl (eV a1 a2 b1 b2) (eE a1 a2 b1 b2) (ej a1 a2 b1 b2) (ee a1 a2 b1 b2) (eV c1 c2 d1 d2) (eE c1 c2 d1 d2) (ej c1 c2 d1 d2) (ee c1 c2 d1 d2)
def jh(a1 a2 b1 b2 c1 c2 d1 d2:Int):fR:=if dm a1 a2 b1 b2 c1 c2 d1 d2=0 then wT a1 a2 b1 b2 c1 c2 d1 d2 else od a1 a2 b1 b2 c1 c2 d1 d2
theorem RD(a1 a2 b1 b2 c1 c2 d1 d2:Int):jh b1 b2 a1 a2 c1 c2 d1 d2=jh a1 a2 b1 b2 c1 c2 d1 d2:=by
  unfold jh;obtain⟨h1,h2,ar,aK⟩:=Ro a1 a2 b1 b2
  by_cases h:dm a1 a2 b1 b2 c1 c2 d1 d2=0
  · rw[if_pos (by rw[GZ];omega),if_pos h];unfold wT;rw[h1,h2,ar,aK]
  · rw[if_neg (by rw[GZ];omega),if_neg h,afF h]
theorem RE(a1 a2 b1 b2 c1 c2 d1 d2:Int):jh a1 a2 b1 b2 d1 d2 c1 c2=jh a1 a2 b1 b2 c1 c2 d1 d2:=by
  unfold jh;obtain⟨h1,h2,ar,aK⟩:=Ro c1 c2 d1 d2
  by_cases h:dm a1 a2 b1 b2 c1 c2 d1 d2=0
  · rw[if_pos (by rw[CV];omega),if_pos h];unfold wT;rw[h1,h2,ar,aK]
  · rw[if_neg (by rw[CV];omega),if_neg h,afG h]
theorem afJ(a1 a2 b1 b2 c1 c2 d1 d2:Int):jh (eV a1 a2 b1 b2) (eE a1 a2 b1 b2) (ej a1 a2 b1 b2) (ee a1 a2 b1 b2) (eV c1 c2 d1 d2) (eE c1 c2 d1 d2) (ej c1 c2 d1 d2) (ee c1 c2 d1 d2)=jh a1 a2 b1 b2 c1 c2 d1 d2:=by
  rcases oB a1 a2 b1 b2 with ⟨h1,h2,ar,aK,_⟩|⟨h1,h2,ar,aK,_⟩ <;> rcases oB c1 c2 d1 d2 with ⟨bB,cl,ju,lp,_⟩|⟨bB,cl,ju,lp,_⟩ <;> rw[h1,h2,ar,aK,bB,cl,ju,lp]
  · rw[RE]
  · rw[RD]
  · rw[RD,RE]
def KA(s1 s2 bV b6 t1 t2 t3 t4 A B C D:Int):fR :=
  if A=B then inl s1 s2 bV b6 t1 t2 t3 t4
  else if same A B∨same C D then iL
  else j5 (kw (t3*A-t1*B) (A-B)) (jy (A-B)) (kw (t4*A-t2*B) (A-B)) (jy (A-B))
theorem Ry{s1 s2 bV b6:Int}(h:dI s1 s2 bV b6):eV s1 s2 bV b6=s1∧eE s1 s2 bV b6=s2∧ej s1 s2 bV b6=bV∧ee s1 s2 bV b6=b6:=by
  unfold eV eE ej ee;simp[h]
theorem afI{s1 s2 bV b6 t1 t2 t3 t4:Int}(hs:dI s1 s2 bV b6)(aD:dI t1 t2 t3 t4) :
    KA s1 s2 bV b6 t1 t2 t3 t4 (cn s1 s2 bV b6 t1 t2) (cn s1 s2 bV b6 t3 t4) (cn t1 t2 t3 t4 s1 s2) (cn t1 t2 t3 t4 bV b6)=jh s1 s2 bV b6 t1 t2 t3 t4:=by
  have aI:=KO s1 s2 bV b6 t1 t2 t3 t4;have aN:=KP s1 s2 bV b6 t1 t2 t3 t4;have cc:=Mh s1 s2 bV b6 t1 t2 t3 t4;unfold KA jh
  by_cases h:dm s1 s2 bV b6 t1 t2 t3 t4=0
  · rw[if_pos (by omega),if_pos h]
    unfold wT;obtain⟨h1,h2,ar,aK⟩:=Ry hs;obtain⟨bB,cl,ju,lp⟩:=Ry aD;rw[h1,h2,ar,aK,bB,cl,ju,lp]
  · rw[if_neg (by omega),if_neg h]
    have f:=aaq h;have g1:t3*cn s1 s2 bV b6 t1 t2-t1*cn s1 s2 bV b6 t3 t4 = - kR s1 s2 bV b6 t1 t2 t3 t4:=by omega
    have g2:t4*cn s1 s2 bV b6 t1 t2-t2*cn s1 s2 bV b6 t3 t4 = - kS s1 s2 bV b6 t1 t2 t3 t4:=by omega
    have g3:cn s1 s2 bV b6 t1 t2-cn s1 s2 bV b6 t3 t4 = - dm s1 s2 bV b6 t1 t2 t3 t4:=by omega
    rw[g1,g2,g3,sk h,sk h,B9];unfold od va
    by_cases q:same (cn s1 s2 bV b6 t1 t2) (cn s1 s2 bV b6 t3 t4)∨same (cn t1 t2 t3 t4 s1 s2) (cn t1 t2 t3 t4 bV b6)
    · rw[if_pos q,if_neg fun k=>f.1 k q]
    · rw[if_neg q,if_pos (f.2 q)]
structure iE where
 n:Int
 d:Int
 own:Bool
structure Pa where
 f:iE
 t:iE
def ij(x y:iE):Int:=fj (x.n*y.d) (y.n*x.d)
def sd(x y:iE):iE:=if 0<ij x y∨(ij x y=0∧y.own=true) then x else y
def rT(x y:iE):iE:=if ij x y<0∨(ij x y=0∧y.own=true) then x else y
def pg(p:Pa)(u v:Int)(own:Bool):Pa :=
 if 0<v-u then ⟨sd p.f ⟨-u,v-u,own⟩,p.t⟩
 else if v-u<0 then ⟨p.f,rT p.t ⟨u,-(v-u),own⟩⟩
 else if u<0∨(u=0∧own=false) then ⟨⟨1,1,false⟩,⟨0,1,false⟩⟩ else p
def xY(p:Pa):Bool:=decide (ij p.f p.t<0)||(decide (ij p.f p.t=0)&&p.f.own&&p.t.own)
def vU:Pa:=⟨⟨0,1,true⟩,⟨1,1,true⟩⟩
theorem adP(x y:Int):fj x y<0↔x<y:=by unfold fj;split <;> (try split) <;> omega
theorem adO(x y:Int):0<fj x y↔y<x:=by unfold fj;split <;> (try split) <;> omega
theorem adN(x y:Int):fj x y=0↔x=y:=by unfold fj;split <;> (try split) <;> omega
def rC(x:iE)(n d:Int):Prop:=x.n*d<n*x.d∨(x.own=true∧x.n*d=n*x.d)
def rD(y:iE)(n d:Int):Prop:=n*y.d<y.n*d∨(y.own=true∧n*y.d=y.n*d)
def qz(p:Pa)(n d:Int):Prop:=rC p.f n d∧rD p.t n d
theorem qa{a b c:Int}(h:a<b)(ak:0<c):a*c<b*c:=Int.mul_lt_mul_of_pos_right h ak
theorem lt_mul{a b c:Int}(h:a*c<b*c)(ak:0<c):a<b:=Int.lt_of_mul_lt_mul_right h (by omega)
theorem eq_mul{a b c:Int}(h:a*c=b*c)(ak:0<c):a=b:=Int.eq_of_mul_eq_mul_right (by omega) h
theorem wv{a b c d e f:Int}(aa:0<b)(hd:0<d)(ay:0<f)(h:a*d<c*b)(k:c*f<e*d):a*f<e*b:=by
 have h1:=qa h ay;have h2:=qa k aa;refine lt_mul (c:=d) ?_ hd;have aI:a*d*f=a*f*d:=by grind
 have aN:c*b*f=c*f*b:=by grind
 have cc:e*d*b=e*b*d:=by grind
 omega
theorem x9{a b c d e f:Int}(aa:0<b)(hd:0<d)(ay:0<f)(h:a*d=c*b)(k:c*f<e*d):a*f<e*b:=by
 have h2:=qa k aa;refine lt_mul (c:=d) ?_ hd;have aI:a*d*f=a*f*d:=by grind
 have aN:c*b*f=c*f*b:=by grind
 have cc:e*d*b=e*b*d:=by grind
 have h1:a*d*f=c*b*f:=by rw[h]
 omega
theorem ya{a b c d e f:Int}(aa:0<b)(hd:0<d)(ay:0<f)(h:a*d<c*b)(k:c*f=e*d):a*f<e*b:=by
 have h1:=qa h ay;refine lt_mul (c:=d) ?_ hd;have aI:a*d*f=a*f*d:=by grind
 have aN:c*b*f=c*f*b:=by grind
 have cc:e*d*b=e*b*d:=by grind
 have h2:c*f*b=e*d*b:=by rw[k]
 omega
theorem IE{a b c d e f:Int}(aa:0<b)(hd:0<d)(ay:0<f)(h:a*d=c*b)(k:c*f=e*d):a*f=e*b:=by
 refine eq_mul (c:=d) ?_ hd;have aI:a*d*f=a*f*d:=by grind
 have aN:c*b*f=c*f*b:=by grind
 have cc:e*d*b=e*b*d:=by grind
 have h1:a*d*f=c*b*f:=by rw[h]
 have h2:c*f*b=e*d*b:=by rw[k]
 omega
theorem D7(x y:iE):(x.n*y.d<y.n*x.d∧ij x y<0)∨(x.n*y.d=y.n*x.d∧ij x y=0)∨(y.n*x.d<x.n*y.d∧0<ij x y):=by
 have h1:=adP (x.n*y.d) (y.n*x.d);have h2:=adO (x.n*y.d) (y.n*x.d);have ar:=adN (x.n*y.d) (y.n*x.d);unfold ij;omega
theorem Ri(x y:iE):(sd x y=x∧(0<ij x y∨(ij x y=0∧y.own=true)))∨(sd x y=y∧¬(0<ij x y∨(ij x y=0∧y.own=true))):=by
 unfold sd
 split
 ·rename_i h;exact .inl ⟨rfl,h⟩
 ·rename_i h;exact .inr ⟨rfl,h⟩
theorem Ov(x y:iE):(rT x y=x∧(ij x y<0∨(ij x y=0∧y.own=true)))∨(rT x y=y∧¬(ij x y<0∨(ij x y=0∧y.own=true))):=by
 unfold rT
 split
 ·rename_i h;exact .inl ⟨rfl,h⟩
 ·rename_i h;exact .inr ⟨rfl,h⟩
theorem XG{x y:iE}{n d:Int}(ab:0<x.d)(ai:0<y.d)(hd:0<d):rC (sd x y) n d↔rC x n d∧rC y n d:=by
 unfold rC;rcases Ri x y with ⟨e,h⟩|⟨e,h⟩ <;> rw[e] <;> rcases D7 x y with ⟨t,c⟩|⟨t,c⟩|⟨t,c⟩
 ·omega
 ·have aC:y.own=true:=by rcases h with h|⟨_,h⟩ <;> first|exact h|(exfalso;omega)
  refine⟨fun k=>⟨k,?_⟩,fun k=>k.1⟩;rcases k with k|⟨_,k⟩
  ·exact .inl (x9 ai ab hd t.symm k)
  ·exact .inr ⟨aC,IE ai ab hd t.symm k⟩
 ·refine⟨fun k=>⟨k,?_⟩,fun k=>k.1⟩;rcases k with k|⟨_,k⟩
  ·exact .inl (wv ai ab hd t k)
  ·exact .inl (ya ai ab hd t k)
 ·refine⟨fun k=>⟨?_,k⟩,fun k=>k.2⟩;rcases k with k|⟨_,k⟩
  ·exact .inl (wv ab ai hd t k)
  ·exact .inl (ya ab ai hd t k)
 ·refine⟨fun k=>⟨?_,k⟩,fun k=>k.2⟩;have aC:¬y.own=true:=fun q=>h (.inr ⟨c,q⟩);rcases k with k|⟨q,k⟩
  ·exact .inl (x9 ab ai hd t k)
  ·exact absurd q aC
 ·omega
theorem YN{x y:iE}{n d:Int}(ab:0<x.d)(ai:0<y.d)(hd:0<d):rD (rT x y) n d↔rD x n d∧rD y n d:=by
 unfold rD;rcases Ov x y with ⟨e,h⟩|⟨e,h⟩ <;> rw[e] <;> rcases D7 x y with ⟨t,c⟩|⟨t,c⟩|⟨t,c⟩
 ·refine⟨fun k=>⟨k,?_⟩,fun k=>k.1⟩;rcases k with k|⟨_,k⟩
  ·exact .inl (wv hd ab ai k t)
  ·exact .inl (x9 hd ab ai k t)
 ·have aC:y.own=true:=by rcases h with h|⟨_,h⟩ <;> first|exact h|(exfalso;omega)
  refine⟨fun k=>⟨k,?_⟩,fun k=>k.1⟩;rcases k with k|⟨_,k⟩
  ·exact .inl (ya hd ab ai k t)
  ·exact .inr ⟨aC,IE hd ab ai k t⟩
 ·omega
 ·omega
 ·refine⟨fun k=>⟨?_,k⟩,fun k=>k.2⟩;have aC:¬y.own=true:=fun q=>h (.inr ⟨c,q⟩);rcases k with k|⟨q,k⟩
  ·exact .inl (ya hd ai ab k t.symm)
  ·exact absurd q aC
 ·refine⟨fun k=>⟨?_,k⟩,fun k=>k.2⟩;rcases k with k|⟨_,k⟩
  ·exact .inl (wv hd ai ab k t)
  ·exact .inl (x9 hd ai ab k t)
def kF(u v:Int)(own:Bool)(n d:Int):Prop:=0<u*(d-n)+v*n∨(own=true∧u*(d-n)+v*n=0)
theorem FE{p:Pa}{u v n d:Int}{own:Bool}(ay:0<p.f.d)(aD:0<p.t.d)(hd:0<d):qz (pg p u v own) n d↔qz p n d∧kF u v own n d:=by
 have cy:u*(d-n)+v*n=(v-u)*n+u*d:=by grind
 unfold pg
 by_cases h1:0<v-u
 ·rw[if_pos h1];unfold qz;rw[XG ay h1 hd]
  have:rC ⟨-u,v-u,own⟩ n d↔kF u v own n d:=by
   unfold rC kF;simp only;have aI : -u*d = -(u*d):=by grind
   have aN:n*(v-u)=(v-u)*n:=by grind
   rw[cy,aI,aN]
   constructor
   ·rintro (k|⟨k,l⟩)
    ·exact .inl (by omega)
    ·exact .inr ⟨k,by omega⟩
   ·rintro (k|⟨k,l⟩)
    ·exact .inl (by omega)
    ·exact .inr ⟨k,by omega⟩
  rw[this]
  constructor
  ·rintro⟨⟨a,b⟩,c⟩;exact⟨⟨a,c⟩,b⟩
  ·rintro⟨⟨a,c⟩,b⟩;exact⟨⟨a,b⟩,c⟩
 ·rw[if_neg h1]
  by_cases h2:v-u<0
  ·rw[if_pos h2];unfold qz;have aj:(0:Int) < -(v-u):=by omega
   rw[YN aD aj hd]
   have:rD ⟨u,-(v-u),own⟩ n d↔kF u v own n d:=by
    unfold rD kF;simp only;have aN:n * -(v-u) = -((v-u)*n):=by grind
    rw[cy,aN]
    constructor
    ·rintro (k|⟨k,l⟩)
     ·exact .inl (by omega)
     ·exact .inr ⟨k,by omega⟩
    ·rintro (k|⟨k,l⟩)
     ·exact .inl (by omega)
     ·exact .inr ⟨k,by omega⟩
   rw[this]
   constructor
   ·rintro⟨a,b,c⟩;exact⟨⟨a,b⟩,c⟩
   ·rintro⟨⟨a,b⟩,c⟩;exact⟨a,b,c⟩
  ·rw[if_neg h2];have cc:v-u=0:=by omega
   have ed:u*(d-n)+v*n=u*d:=by rw[cy,cc];omega
   by_cases ar:u<0∨(u=0∧own=false)
   ·rw[if_pos ar]
    have ll:¬kF u v own n d:=by
     unfold kF;rw[ed];rcases ar with ar|⟨rfl,rfl⟩
     ·have:=qa ar hd;omega
     ·simp
    refine⟨fun k=>absurd k ?_,fun k=>absurd k.2 ll⟩;unfold qz rC rD;simp;omega
   ·rw[if_neg ar]
    have adK:kF u v own n d:=by
     unfold kF;rw[ed]
     by_cases aK:u=0
     ·subst aK;right;refine⟨?_,by simp⟩;cases own with
      | true=>rfl
      | false=>exact absurd (.inr ⟨rfl,rfl⟩) ar
     ·left;have:0<u:=by omega
      have:=qa this hd;omega
    exact⟨fun k=>⟨k,adK⟩,fun k=>k.1⟩
theorem ae9{x y:iE}(ab:0<x.d)(ai:0<y.d):0<(sd x y).d:=by unfold sd;split <;> assumption
theorem ZV{x y:iE}(ab:0<x.d)(ai:0<y.d):0<(rT x y).d:=by unfold rT;split <;> assumption
theorem wU{p:Pa}{u v:Int}{own:Bool}(ay:0<p.f.d)(aD:0<p.t.d):0<(pg p u v own).f.d∧0<(pg p u v own).t.d:=by
 unfold pg
 by_cases h1:0<v-u
 ·rw[if_pos h1];exact⟨ae9 ay h1,aD⟩
 ·rw[if_neg h1]
  by_cases h2:v-u<0
  ·rw[if_pos h2];exact⟨ay,ZV aD (by simp only;omega)⟩
  ·rw[if_neg h2]
   split
   ·exact⟨by decide,by decide⟩
   ·exact⟨ay,aD⟩
def RL(x y:iE):Int:=x.n*y.d+y.n*x.d
def KC(x y:iE):Int:=x.d*y.d+x.d*y.d
theorem afO{p:Pa}(ay:0<p.f.d)(aD:0<p.t.d)(h:p.f.n*p.t.d<p.t.n*p.f.d):0<KC p.f p.t∧qz p (RL p.f p.t) (KC p.f p.t):=by
 unfold RL KC qz rC rD;have hm:0<p.f.d*p.t.d:=Int.mul_pos ay aD;refine⟨by omega,.inl ?_,.inl ?_⟩
 ·have:=qa h ay;grind
 ·have:=qa h aD;grind
theorem Yz{p:Pa}(ay:0<p.f.d)(aD:0<p.t.d):xY p=true↔∃n d,0<d∧qz p n d:=by
 unfold xY;simp only[pk,eb,cS]
 constructor
 ·intro h;rcases D7 p.f p.t with ⟨t,c⟩|⟨t,c⟩|⟨t,c⟩
  ·obtain⟨h1,h2⟩:=afO ay aD t;exact⟨_,_,h1,h2⟩
  ·rcases h with h|⟨⟨_,h1⟩,h2⟩
   ·omega
   ·exact⟨p.f.n,p.f.d,ay,.inr ⟨h1,rfl⟩,.inr ⟨h2,t⟩⟩
  ·rcases h with h|⟨⟨h,_⟩,_⟩ <;> omega
 ·rintro⟨n,d,hd,h1,h2⟩;rcases D7 p.f p.t with ⟨t,c⟩|⟨t,c⟩|⟨t,c⟩
  ·exact .inl c
  ·right;refine⟨⟨c,?_⟩,?_⟩
   ·rcases h1 with h1|⟨h1,_⟩
    ·exfalso;rcases h2 with h2|⟨_,h2⟩
     ·have:=wv ay hd aD h1 h2;omega
     ·have:=ya ay hd aD h1 h2;omega
    ·exact h1
   ·rcases h2 with h2|⟨h2,_⟩
    ·exfalso;rcases h1 with h1|⟨_,h1⟩
     ·have:=wv ay hd aD h1 h2;omega
     ·have:=x9 ay hd aD h1 h2;omega
    ·exact h2
  ·exfalso;rcases h1 with h1|⟨_,h1⟩ <;> rcases h2 with h2|⟨_,h2⟩
   ·have:=wv ay hd aD h1 h2;omega
   ·have:=ya ay hd aD h1 h2;omega
   ·have:=x9 ay hd aD h1 h2;omega
   ·have:=IE ay hd aD h1 h2;omega
def uB(cM v1 cN v2 kD v3 mq v4:Int)(o p:Bool):Pa:=pg (pg (pg (pg vU cM v1 o) cN v2 o) kD v3 p) mq v4 p
theorem Zx(cM v1 cN v2 kD v3 mq v4:Int)(o p:Bool):0<(uB cM v1 cN v2 kD v3 mq v4 o p).f.d∧0<(uB cM v1 cN v2 kD v3 mq v4 o p).t.d:=by
 unfold uB;have h1:=wU (p:=vU) (u:=cM) (v:=v1) (own:=o) (by decide) (by decide);have h2:=wU (u:=cN) (v:=v2) (own:=o) h1.1 h1.2;have ar:=wU (u:=kD) (v:=v3) (own:=p) h2.1 h2.2;exact wU (u:=mq) (v:=v4) (own:=p) ar.1 ar.2
theorem X0{n d:Int}(hd:0<d):qz vU n d↔0≤n∧n≤d:=by
 unfold qz rC rD vU;simp;omega
theorem Oa{cM v1 cN v2 kD v3 mq v4 n d:Int}{o p:Bool}(hd:0<d):qz (uB cM v1 cN v2 kD v3 mq v4 o p) n d↔(0≤n∧n≤d)∧kF cM v1 o n d∧kF cN v2 o n d∧kF kD v3 p n d∧kF mq v4 p n d:=by
 unfold uB;have h1:=wU (p:=vU) (u:=cM) (v:=v1) (own:=o) (by decide) (by decide);have h2:=wU (u:=cN) (v:=v2) (own:=o) h1.1 h1.2;have ar:=wU (u:=kD) (v:=v3) (own:=p) h2.1 h2.2;rw[FE ar.1 ar.2 hd,FE h2.1 h2.2 hd,FE h1.1 h1.2 hd,FE (by decide) (by decide) hd,X0 hd];simp only[and_assoc]
def Met(cM v1 cN v2 kD v3 mq v4:Int)(o p:Bool):Prop:=∃n d,0<d∧(0≤n∧n≤d)∧kF cM v1 o n d∧kF cN v2 o n d∧kF kD v3 p n d∧kF mq v4 p n d
theorem Zw(cM v1 cN v2 kD v3 mq v4:Int)(o p:Bool):xY (uB cM v1 cN v2 kD v3 mq v4 o p)=true↔Met cM v1 cN v2 kD v3 mq v4 o p:=by
 obtain⟨h1,h2⟩:=Zx cM v1 cN v2 kD v3 mq v4 o p;rw[Yz h1 h2]
 constructor
 ·rintro⟨n,d,hd,h⟩;exact⟨n,d,hd,(Oa hd).1 h⟩
 ·rintro⟨n,d,hd,h⟩;exact⟨n,d,hd,(Oa hd).2 h⟩
def xL(X Y W a1 a2 b1 b2:Int):Prop:=∃n d,0<d∧(0≤n∧n≤d)∧X*d=W*(a1*(d-n)+b1*n)∧Y*d=W*(a2*(d-n)+b2*n)
theorem Sw{p1 p2 a1 a2 b1 b2:Int}(h:dE p1 p2 a1 a2 b1 b2):xL p1 p2 1 a1 a2 b1 b2:=by
 obtain⟨aF,h1,h2,ar,aK⟩:=h;unfold cn at aF;unfold hG at h1 ar;unfold hE at h2 aK;rcases Int.lt_trichotomy a1 b1 with g|g|g
 ·rw[if_neg (by omega)] at h1;rw[if_pos (show b1>a1 from g)] at h2;exact⟨p1-a1,b1-a1,by omega,by omega,by grind,by grind⟩
 ·subst g;rcases Int.lt_trichotomy a2 b2 with g|g|g
  ·rw[if_neg (by omega)] at ar;rw[if_pos (show b2>a2 from g)] at aK;have:p1=a1:=by split at h1 <;> split at h2 <;> omega
   exact⟨p2-a2,b2-a2,by omega,by omega,by grind,by grind⟩
  ·subst g;have aI:p1=a1:=by split at h1 <;> split at h2 <;> omega
   have aN:p2=a2:=by split at ar <;> split at aK <;> omega
   exact⟨0,1,by omega,by omega,by grind,by grind⟩
  ·rw[if_pos g] at ar;rw[if_neg (by omega)] at aK;have:p1=a1:=by split at h1 <;> split at h2 <;> omega
   exact⟨a2-p2,a2-b2,by omega,by omega,by grind,by grind⟩
 ·rw[if_pos g] at h1;rw[if_neg (by omega)] at h2;exact⟨a1-p1,a1-b1,by omega,by omega,by grind,by grind⟩
theorem LM{v W:Int}(ga:0<W)(h:0≤v*W):0≤v:=by
 refine Int.not_lt.1 fun bb => ?_;have:=Int.mul_lt_mul_of_pos_right bb ga;omega
theorem aj8{v W:Int}(ga:0<W)(h:0<v*W):0<v:=by
 refine Int.not_le.1 fun hle => ?_;have:=qo hle (show 0≤W by omega);omega
theorem Tt{X Y W a1 a2 b1 b2 l1 l2 h1 h2:Int}(ga:0<W)(h:xL X Y W a1 a2 b1 b2)(g1:l1*W≤2*X)(g2:l2*W≤2*Y)(g3:2*X<h1*W)(g4:2*Y<h2*W) :
  Met (2*a1-l1) (2*b1-l1) (2*a2-l2) (2*b2-l2) (h1-2*a1) (h1-2*b1) (h2-2*a2) (h2-2*b2) true false:=by
 obtain⟨n,d,hd,aA,aI,aN⟩:=h
 have low:∀ {X a b l:Int},X*d=W*(a*(d-n)+b*n)→l*W≤2*X→kF (2*a-l) (2*b-l) true n d:=fun{X a b l} e g=>by
  have k:=hL (show 0≤d by omega) (show 0≤2*X-l*W by omega);have e':((2*a-l)*(d-n)+(2*b-l)*n)*W=d*(2*X-l*W):=by grind
  rw[←e'] at k;rcases Int.lt_or_eq_of_le (LM ga k) with h|h
  ·exact .inl h
  ·exact .inr ⟨rfl,h.symm⟩
 have high:∀ {X a b l:Int},X*d=W*(a*(d-n)+b*n)→2*X<l*W→kF (l-2*a) (l-2*b) false n d:=fun{X a b l} e g=>by
  have k:=Int.mul_pos hd (show 0<l*W-2*X by omega);have e':((l-2*a)*(d-n)+(l-2*b)*n)*W=d*(l*W-2*X):=by grind
  rw[←e'] at k;exact .inl (aj8 ga k)
 exact⟨n,d,hd,aA,low aI g1,low aN g2,high aI g3,high aN g4⟩
theorem Ts{X Y W a1 a2 b1 b2:Int}(h:xL X Y W a1 a2 b1 b2):(b1-a1)*(Y-a2*W)=(b2-a2)*(X-a1*W):=by
 obtain⟨n,d,hd,aA,aI,aN⟩:=h;have:d*((b1-a1)*(Y-a2*W)-(b2-a2)*(X-a1*W))=0:=by grind
 rcases tV.1 this with h|h
 ·omega
 ·omega
theorem RC{a1 a2 b1 b2 c1 c2 d1 d2 X Y W W':Int}(h:dm a1 a2 b1 b2 c1 c2 d1 d2≠0)(e:od a1 a2 b1 b2 c1 c2 d1 d2=j5 X W Y W'):W'=W∧0<W∧xL X Y W c1 c2 d1 d2:=by
 obtain⟨_,cz⟩:=Vw h;unfold od va at e
 split at e
 ·rename_i aK;obtain⟨_,_,bB,cl⟩:=aK;have aI:=congrArg fR.n e;have aN:=congrArg fR.d e;have cc:=congrArg fR.m e;have ed:=congrArg fR.e e;simp only[j5] at aI aN cc ed;have hc:=KO a1 a2 b1 b2 c1 c2 d1 d2;have nk:=KP a1 a2 b1 b2 c1 c2 d1 d2;have hw:=Mh a1 a2 b1 b2 c1 c2 d1 d2;rw[←aN,←ed];refine⟨rfl,Sc h,?_⟩;rw[s6] at bB cl;unfold kw at aI cc bB cl;unfold jy at bB cl ⊢
  by_cases hs:dm a1 a2 b1 b2 c1 c2 d1 d2<0
  ·rw[if_pos hs] at aI cc bB cl ⊢;rw[if_pos hs] at bB cl
   have:=(DX (x:=d1) (y:=c1) (u:=d2) (v:=c2) (A := -cn a1 a2 b1 b2 d1 d2) (B := -cn a1 a2 b1 b2 c1 c2) (D := -dm a1 a2 b1 b2 c1 c2 d1 d2) (by omega) (by omega) (by omega)).1 ⟨by
    rw[show c1 * -cn a1 a2 b1 b2 d1 d2-d1 * -cn a1 a2 b1 b2 c1 c2 = -kR a1 a2 b1 b2 c1 c2 d1 d2 by grind];exact bB,by
    rw[show c2 * -cn a1 a2 b1 b2 d1 d2-d2 * -cn a1 a2 b1 b2 c1 c2 = -kS a1 a2 b1 b2 c1 c2 d1 d2 by grind];exact cl⟩
   exact⟨cn a1 a2 b1 b2 c1 c2,-dm a1 a2 b1 b2 c1 c2 d1 d2,by omega,by omega,by rw[←aI];grind,by rw[←cc];grind⟩
  ·rw[if_neg hs] at aI cc bB cl ⊢;rw[if_neg hs] at bB cl
   have:=(DX (x:=d1) (y:=c1) (u:=d2) (v:=c2) (A:=cn a1 a2 b1 b2 d1 d2) (B:=cn a1 a2 b1 b2 c1 c2) (D:=dm a1 a2 b1 b2 c1 c2 d1 d2) (by omega) (by omega) (by omega)).1 ⟨by
    rw[hc];exact bB,by
    rw[nk];exact cl⟩
   exact⟨-cn a1 a2 b1 b2 c1 c2,dm a1 a2 b1 b2 c1 c2 d1 d2,by omega,by omega,by rw[←aI];grind,by rw[←cc];grind⟩
 ·have:=congrArg fR.k e;simp[iL,j5] at this
theorem BX{a1 a2 b1 b2 c1 c2 d1 d2 X Y W W':Int}(e:jh a1 a2 b1 b2 c1 c2 d1 d2=j5 X W Y W'):W'=W∧0<W∧xL X Y W a1 a2 b1 b2∧xL X Y W c1 c2 d1 d2∧(∀p1 p2,dE p1 p2 a1 a2 b1 b2→dE p1 p2 c1 c2 d1 d2→X=p1*W∧Y=p2*W):=by
 unfold jh at e
 split at e
 ·rename_i hw;unfold wT inl at e
  split at e
  ·rename_i JN;obtain⟨o1,o2⟩:=JN;unfold wS at e
   split at e
   ·rename_i yk;have aI:=congrArg fR.n e;have aN:=congrArg fR.d e;have cc:=congrArg fR.m e;have ed:=congrArg fR.e e;simp only[j5] at aI aN cc ed;subst aN;subst ed;rw[Cd] at o1 o2;rw[aI,cc] at o1 o2;refine⟨rfl,by decide,Sw o1,Sw o2,fun p1 p2 hp aj => ?_⟩
    have ac7:qh (eV a1 a2 b1 b2) (eE a1 a2 b1 b2) (ej a1 a2 b1 b2) (ee a1 a2 b1 b2) (eV c1 c2 d1 d2) (eE c1 c2 d1 d2) (ej c1 c2 d1 d2) (ee c1 c2 d1 d2)=0:=by
     rw[Vx] at hw;rcases oB a1 a2 b1 b2 with ⟨h1,h2,ar,aK,_⟩|⟨h1,h2,ar,aK,_⟩ <;> rcases oB c1 c2 d1 d2 with ⟨bB,cl,ju,lp,_⟩|⟨bB,cl,ju,lp,_⟩ <;> rw[h1,h2,ar,aK,bB,cl,ju,lp] <;> unfold qh at hw ⊢ <;> grind
    obtain⟨_,_,_,_,l1,l2⟩:=Rp (yF a1 a2 b1 b2) (yF c1 c2 d1 d2) ac7 (Cd.2 hp) (Cd.2 aj);rw[←yk.1,←yk.2] at l2;have:=dI.DK l1 l2;omega
   ·have:=congrArg fR.k e;simp[uv,j5] at this
  ·have:=congrArg fR.k e;simp[iL,j5] at this
 ·rename_i hw;obtain⟨g1,g2,g3⟩:=RC hw e;have nu:dm c1 c2 d1 d2 a1 a2 b1 b2≠0:=by rw[G0];omega
  obtain⟨_,_,g4⟩:=RC nu (by rw[afH hw];exact e);refine⟨g1,g2,g4,g3,fun p1 p2 hp aj => ?_⟩;have l1:=Ts g4;have l2:=Ts g3;have q1:=hp.1;have q2:=aj.1;unfold cn at q1 q2
  have line:∀ {a1 a2 b1 b2:Int},(b1-a1)*(Y-a2*W)=(b2-a2)*(X-a1*W)→(b1-a1)*(p2-a2)-(b2-a2)*(p1-a1)=0→(b1-a1)*(Y-p2*W)=(b2-a2)*(X-p1*W):=fun{a1 a2 b1 b2} l q=>by
   have z:(b1-a1)*(Y-p2*W)-(b2-a2)*(X-p1*W)=((b1-a1)*(Y-a2*W)-(b2-a2)*(X-a1*W))-((b1-a1)*(p2-a2)-(b2-a2)*(p1-a1))*W:=by grind
   rw[q,l,Int.zero_mul] at z;omega
  have m1:=line l1 q1;have m2:=line l2 q2
  have jK:dm a1 a2 b1 b2 c1 c2 d1 d2*(X-p1*W)=0:=by
   have z:dm a1 a2 b1 b2 c1 c2 d1 d2*(X-p1*W)=(b1-a1)*((d2-c2)*(X-p1*W))-(d1-c1)*((b2-a2)*(X-p1*W)):=by unfold dm;grind
   rw[z,←m1,←m2,Int.mul_left_comm];omega
  have z2:dm a1 a2 b1 b2 c1 c2 d1 d2*(Y-p2*W)=0:=by
   have z:dm a1 a2 b1 b2 c1 c2 d1 d2*(Y-p2*W)=(d2-c2)*((b1-a1)*(Y-p2*W))-(b2-a2)*((d1-c1)*(Y-p2*W)):=by unfold dm;grind
   rw[z,m1,m2,Int.mul_left_comm];omega
  have jJ:=(tV.1 jK).resolve_left hw;have mr:=(tV.1 z2).resolve_left hw;omega
def zM(S:Int)(p q x:Int×Int):Prop:=Met (2*(S*p.1)-(2*(S*x.1)-S)) (2*(S*q.1)-(2*(S*x.1)-S)) (2*(S*p.2)-(2*(S*x.2)-S)) (2*(S*q.2)-(2*(S*x.2)-S)) (2*(S*x.1)+S-2*(S*p.1)) (2*(S*x.1)+S-2*(S*q.1)) (2*(S*x.2)+S-2*(S*p.2)) (2*(S*x.2)+S-2*(S*q.2)) true false
def Dj(S X Y W:Int)(x:Int×Int):Prop:=((2*(S*x.1)-S)*W≤2*X∧2*X<(2*(S*x.1)+S)*W)∧(2*(S*x.2)-S)*W≤2*Y∧2*Y<(2*(S*x.2)+S)*W
abbrev MM(S:Int)(x p q:Int×Int):Prop:=dE (S*x.1) (S*x.2) (S*p.1) (S*p.2) (S*q.1) (S*q.2)
theorem St(S:Int)(p q:Int×Int):MM S p p q:=by
 refine⟨H5 ..,?_⟩;unfold tC hG hE
 split <;> split <;> split <;> split <;> omega
theorem Su(S:Int)(p q:Int×Int):MM S q p q:=by
 refine⟨N7 ..,?_⟩;unfold tC hG hE
 split <;> split <;> split <;> split <;> omega
theorem afL{S:Int}(hS:0<S){p q fD cG x:Int×Int}{X Y W W':Int}(e:jh (S*p.1) (S*p.2) (S*q.1) (S*q.2) (S*fD.1) (S*fD.2) (S*cG.1) (S*cG.2)=j5 X W Y W')(ab:Dj S X Y W x)(h1:zM S p q x→x=p∨x=q)(h2:zM S fD cG x→x=fD∨x=cG) :
  (x=p∨x=q)∧(x=fD∨x=cG)∧X=S*x.1*W∧Y=S*x.2*W:=by
 obtain⟨_,ga,g1,g2,g3⟩:=BX e;obtain⟨⟨b1,b2⟩,dF,dc⟩:=ab;have bB:=h1 (Tt ga g1 b1 dF b2 dc);have cl:=h2 (Tt ga g2 b1 dF b2 dc);refine⟨bB,cl,g3 _ _ ?_ ?_⟩
 ·rcases bB with rfl|rfl
  ·exact St ..
  ·exact Su ..
 ·rcases cl with rfl|rfl
  ·exact St ..
  ·exact Su ..
end Go.Proofs.YtklpfooafbjnpaaGreat
namespace Go.Proofs.YtklpfooafbjnpaaGreat.bH
abbrev hQ:=Int×Int
abbrev RB(S:Int)(l m:hQ×hQ):fR:=jh (S*l.1.1) (S*l.1.2) (S*l.2.1) (S*l.2.2) (S*m.1.1) (S*m.1.2) (S*m.2.1) (S*m.2.2)
def zY(l m:hQ×hQ):Prop:=l.1=m.1∨l.1=m.2∨l.2=m.1∨l.2=m.2
structure zV (S:Int) (o:dh hQ):Prop where
 pos:0<S
 acF:∀p q x,o.E0 p q x=true→zM S p q x
 PO:∀p q x,o.gB p→o.gB q→o.gB x→zM S p q x→o.E0 p q x=true
 N9:∀l m x,o.cut l m=some x→¬zY l m∧∃X Y W W',RB S l m=j5 X W Y W'∧Dj S X Y W x
 Zv:∀l m,o.gB l.1→o.gB l.2→o.gB m.1→o.gB m.2→o.cut l m=none→(RB S l m).k=1→zY l m
theorem zV.own{S:Int}{o:dh hQ}(h:zV S o){hot:List hQ}(au:∀y∈hot,o.gB y){p q x:hQ}(hp:p∈hot)(aj:q∈hot)(ab:x∈hot)(hs:sV o hot p q)(hm:zM S p q x):x=p∨x=q:=by
 have h1:=hs x ab;have h2:=h.PO p q x (au _ hp) (au _ aj) (au _ ab) hm;unfold kn at h1;rw[h2,Bool.and_true,Bool.and_eq_false_iff] at h1;rcases h1 with h1|h1
 ·exact .inl (by simpa using h1)
 ·exact .inr (by simpa using h1)
theorem zV.Zz{S:Int}{o:dh hQ}(h:zV S o)(hot:List hQ)(p q fD cG x:hQ)(au:∀y∈hot,o.gB y)(hp:p∈hot)(aj:q∈hot)(mK:fD∈hot)(lK:cG∈hot)(hs:sV o hot p q)(Fg:sV o hot fD cG)(ak:o.cut (p,q) (fD,cG)=some x):x∉hot:=fun ab=>by
 obtain⟨aA,X,Y,W,W',e,jX⟩:=h.N9 _ _ _ ak;obtain⟨g1,g2,_⟩:=afL h.pos e jX (h.own au hp aj ab hs) (h.own au mK lK ab Fg);refine aA ?_;unfold zY;rcases g1 with rfl|rfl <;> rcases g2 with g2|g2
 ·exact .inl g2
 ·exact .inr (.inl g2)
 ·exact .inr (.inr (.inl g2))
 ·exact .inr (.inr (.inr g2))
end Go.Proofs.YtklpfooafbjnpaaGreat.bH
namespace Go.Proofs.YtklpfooafbjnpaaGreat
def fN(S X W:Int):Int:=(2*X+S*W)/(2*(S*W))
theorem Gi{S W:Int}(hS:0<S)(ga:0<W)(X:Int):(2*(S*fN S X W)-S)*W≤2*X∧2*X<(2*(S*fN S X W)+S)*W:=by
 have abA:=Int.mul_pos hS ga;unfold fN;have h1:=rc (2*X+S*W) (2*(S*W));have h2:=po (2*X+S*W) (show 2*(S*W)≠0 by omega);have ar:=oO (2*X+S*W) (show 0<2*(S*W) by omega);generalize (2*X+S*W)/(2*(S*W))=g at *;generalize (2*X+S*W) % (2*(S*W))=m at *;have aI:(2*(S*g)-S)*W=2*(S*W)*g-S*W:=by grind
 have aN:(2*(S*g)+S)*W=2*(S*W)*g+S*W:=by grind
 omega
theorem adU{S X Y W:Int}(hS:0<S)(ga:0<W):Dj S X Y W (fN S X W,fN S Y W):=⟨Gi hS ga X,Gi hS ga Y⟩
theorem Tz{S X W n d p q g:Int}(hS:0<S)(ga:0<W)(hd:0<d)(aA:0≤n∧n≤d)(e:X*d=W*(S*p*(d-n)+S*q*n))(h1:(2*(S*g)-S)*W≤2*X)(h2:2*X<(2*(S*g)+S)*W):(p≤q→p≤g∧g≤q)∧(q≤p→q≤g∧g≤p):=by
 have abA:=Int.mul_pos hS ga
 have afy:∀ {b:Int},b≤p→b≤q→S*W*b≤X:=fun{b} bB cl=>by
  have m1:=hL (show 0≤S*W by omega) (hL (show 0≤p-b by omega) (show 0≤d-n by omega));have m2:=hL (show 0≤S*W by omega) (hL (show 0≤q-b by omega) aA.1);have e':(X-S*W*b)*d=S*W*((p-b)*(d-n))+S*W*((q-b)*n):=by grind
  have:=LM (v:=X-S*W*b) hd (by rw[e'];omega);omega
 have acD:∀ {b:Int},p≤b→q≤b→X≤S*W*b:=fun{b} bB cl=>by
  have m1:=hL (show 0≤S*W by omega) (hL (show 0≤b-p by omega) (show 0≤d-n by omega));have m2:=hL (show 0≤S*W by omega) (hL (show 0≤b-q by omega) aA.1);have e':(S*W*b-X)*d=S*W*((b-p)*(d-n))+S*W*((b-q)*n):=by grind
  have:=LM (v:=S*W*b-X) hd (by rw[e'];omega);omega
 have low:∀ {b:Int},b≤p→b≤q→b≤g:=fun{b} bB cl=>by
  have hc:=afy bB cl;refine Int.not_lt.1 fun bb => ?_;have m:=sB (show g+1≤b by omega) (show 0≤S*W by omega);have aN:(2*(S*g)+S)*W=2*(S*W*(g+1))-S*W:=by grind
  omega
 have high:∀ {b:Int},p≤b→q≤b→g≤b:=fun{b} bB cl=>by
  have hc:=acD bB cl;refine Int.not_lt.1 fun bb => ?_;have m:=sB (show b+1≤g by omega) (show 0≤S*W by omega);have aI:(2*(S*g)-S)*W=2*(S*W*g)-S*W:=by grind
  have cc:S*W*(b+1)=S*W*b+S*W:=by grind
  omega
 exact⟨fun h=>⟨low (oM _) h,high h (oM _)⟩,fun h=>⟨low h (oM _),high (oM _) h⟩⟩
def e5(lt:Int×Int→Int×Int→Bool):List (Int×Int)→List (Int×Int)→List (Int×Int)
 | [],b=>b
 | x::a,[]=>x::a
 | x::a,y::b=>if lt y x then y::e5 lt (x::a) b else x::e5 lt a (y::b)
termination_by a b=>a.length+b.length
theorem KJ(lt:Int×Int→Int×Int→Bool)(a:List (Int×Int)):e5 lt a []=a:=by cases a <;> simp[e5]
theorem afT(lt:Int×Int→Int×Int→Bool)(a:List (Int×Int)):e5 lt [] a=a:=by simp[e5]
theorem KI(lt:Int×Int→Int×Int→Bool):∀a b,(e5 lt a b).length=a.length+b.length:=by
 intro a b
 induction a,b using e5.induct lt with
 | case1 b=>simp[e5]
 | case2 x a=>simp[e5]
 | case3 x a y b h ck=>rw[e5,if_pos h,hJ,ck];simp;omega
 | case4 x a y b h ck=>rw[e5,if_neg h,hJ,ck];simp;omega
def jG(lt:Int×Int→Int×Int→Bool)(l:List (Int×Int)):List (Int×Int) :=
 if h:l.length<2 then l else e5 lt (jG lt (l.take (l.length/2))) (jG lt (l.drop (l.length/2)))
termination_by l.length
decreasing_by all_goals (simp;omega)
theorem GM(lt:Int×Int→Int×Int→Bool):∀(N:Nat) (l:List (Int×Int)),l.length≤N→(jG lt l).length=l.length
 | 0,l,h=>by rw[jG,dif_pos (by omega)]
 | N+1,l,h=>by
  rw[jG]
  split
  ·rfl
  ·rw[KI,GM lt N _ (by simp;omega),GM lt N _ (by simp;omega)];simp;omega
end Go.Proofs.YtklpfooafbjnpaaGreat
namespace Go.Proofs.YtklpfooafbjnpaaGreat
open Go.RowKit
def bY:List (Int×Int)→List AC
 | []=>[]
 | p::l => .c (.int .i64 p.1) :: .c (.int .i64 p.2)::bY l
abbrev gr(l:List (Int×Int)):ag:=cD 2 l.length (bY l)
theorem QR:∀(l:List (Int×Int)) (i:Nat) (p:Int×Int),l[i]?=some p→((bY l).drop (i*2)).take 2=[.c (.int .i64 p.1),.c (.int .i64 p.2)]
 | [],i,p,h=>by simp at h
 | q::l,0,p,h=>by simp at h;subst h;simp[bY]
 | q::l,i+1,p,h=>by
  have e:(i+1)*2=i*2+1+1:=by omega
  rw[e];simp only[bY,List.drop_succ_cons];exact QR l i p (by simpa using h)
theorem p7{l:List (Int×Int)}{j:Int}{i:Nat}{x y:Int}(af:j=i)(h:l[i]?=some (x,y)):((bY l).drop (j.toNat*2)).take 2=[.c (.int .i64 x),.c (.int .i64 y)]:=by
 subst af;exact QR l i (x,y) h
theorem oa:∀(l:List (Int×Int)),(bY l).length=l.length*2
 | []=>rfl
 | p::l=>by simp only[bY,hJ,oa l];omega
theorem tE:∀(l m:List (Int×Int)),bY (l++m)=bY l++bY m
 | [],_=>rfl
 | p::l,m=>by simp only[tS,bY,tE l m]
theorem tF:∀(l:List (Int×Int)),(bY l).all AC.aW=true
 | []=>rfl
 | p::l=>by simp only[bY,kA,tF l];rfl
def cJ(l:List Int):List AC:=l.map fun x => .c (.int .i64 x)
abbrev nJ(l:List Int):ag:=cD 1 l.length (cJ l)
theorem wR{l:List Int}{j:Int}{i:Nat}{x:Int}(af:j=i)(h:l[i]?=some x):((cJ l).drop (j.toNat*1)).take 1=[.c (.int .i64 x)]:=by
 subst af;have hi:=(br.1 h).1;rw[kz,Nat.mul_one,jE (by simpa [cJ] using hi)];have:l[i]=x:=(br.1 h).2;simp[cJ,this]
theorem BG(l m:List Int):cJ (l++m)=cJ l++cJ m:=by simp[cJ]
instance am9:nb ah 51 3 1 8:=⟨by kernel_rfl⟩
def Ac(x y z w:Int)(fx fy:Bool):Bool:=if x<z then !fx else if z<x then fx else if y<w then !fy else decide (w<y)&&fy
end Go.Proofs.YtklpfooafbjnpaaGreat
namespace Go.Proofs.YtklpfooafbjnpaaGreat
abbrev aq:=Int×Int
def dX(fx fy:Bool)(p q:aq):Bool:=Ac p.1 p.2 q.1 q.2 fx fy
theorem Aa{fx fy:Bool}{p q:aq}:dX fx fy p q=true↔(if fx then q.1<p.1 else p.1<q.1)∨(p.1=q.1∧if fy then q.2<p.2 else p.2<q.2):=by
 unfold dX Ac
 by_cases h1:p.1<q.1
 ·cases fx <;> simp[h1] <;> omega
 ·by_cases h2:q.1<p.1
  ·cases fx <;> simp[h1,h2] <;> omega
  ·have e:p.1=q.1:=by omega
   by_cases ar:p.2<q.2
   ·cases fx <;> cases fy <;> simp[h1,h2,ar,e] <;> omega
   ·cases fx <;> cases fy <;> simp[h1,h2,ar,e] <;> omega
theorem Ab{fx fy:Bool}{p q r:aq}(h1:dX fx fy p q=true)(h2:dX fx fy q r=true):dX fx fy p r=true:=by
 rw[Aa] at *;cases fx <;> cases fy <;> simp at * <;> omega
theorem M5{fx fy:Bool}{p:aq}:dX fx fy p p=false:=by
 cases h:dX fx fy p p with
 | false=>rfl
 | true=>rw[Aa] at h;cases fx <;> cases fy <;> simp at h
theorem M4{fx fy:Bool}{p q:aq}(h1:dX fx fy p q=true):dX fx fy q p=false:=by
 cases h:dX fx fy q p with
 | false=>rfl
 | true=>have:=Ab h1 h;rw[M5] at this;cases this
theorem HE{fx fy:Bool}{p q:aq}(h:p≠q):dX fx fy p q=true∨dX fx fy q p=true:=by
 rw[Aa,Aa]
 have:p.1≠q.1∨p.2≠q.2:=by
  by_cases h1:p.1=q.1
  ·exact .inr fun h2=>h (Prod.ext h1 h2)
  ·exact .inl h1
 cases fx <;> cases fy <;> simp <;> omega
def k5(fx fy:Bool)(l:List aq):Prop:=l.Pairwise fun p q=>dX fx fy p q=true
theorem Ns{fx fy:Bool}:∀ {l m:List aq},k5 fx fy l→k5 fx fy m→l.Perm m→l=m
 | [],m,_,_,hp=>by have:=hp.nil_eq;exact this
 | p::l,[],_,_,hp=>by have:=hp.length_eq;simp at this
 | p::l,q::m,al,hm,hp=>by
  have h1:=j9.1 al;have h2:=j9.1 hm
  have e:p=q:=by
   rcases fe.1 (hp.mem_iff.1 (hn ..):p∈q::m) with h|h
   ·exact h
   ·rcases fe.1 (hp.mem_iff.2 (hn ..):q∈p::l) with aJ|aJ
    ·exact aJ.symm
    ·have a:=h1.1 q aJ;have b:=h2.1 p h;rw[M4 a] at b;cases b
  subst e;rw[Ns h1.2 h2.2 (List.perm_cons p |>.1 hp)]
def nx(fx fy:Bool)(q:aq):List aq→List aq
 | []=>[q]
 | p::l=>if dX fx fy q p then q::p::l else p::nx fx fy q l
theorem BH(fx fy:Bool)(q:aq):∀l,(nx fx fy q l).Perm (q::l)
 | [] => .refl _
 | p::l=>by
  unfold nx
  split
  ·exact .refl _
  ·exact((BH fx fy q l).cons p).trans (.swap q p l)
theorem QM{fx fy:Bool}{q:aq}:∀ {l:List aq},k5 fx fy l→q∉l→k5 fx fy (nx fx fy q l)
 | [],_,_=>by unfold nx k5;simp
 | p::l,h,aA=>by
  have ak:=j9.1 h;unfold nx
  split
  ·rename_i aj;refine j9.2 ⟨fun r ao => ?_,h⟩;rcases fe.1 ao with rfl|ao
   ·exact aj
   ·exact Ab aj (ak.1 r ao)
  ·rename_i aj;refine j9.2 ⟨fun r ao => ?_,QM ak.2 fun aJ=>aA (kU _ aJ)⟩;rcases fe.1 ((BH fx fy q l).mem_iff.1 ao) with rfl|ao
   ·rcases HE (fx:=fx) (fy:=fy) (p:=p) (q:=r) (fun e=>aA (by rw[e];exact hn ..)) with aJ|aJ
    ·exact aJ
    ·exact absurd aJ aj
   ·exact ak.1 r ao
def sK(fx fy:Bool)(f:aq→Bool)(l:List aq):List aq:=l.foldl (fun out q=>if f q then nx fx fy q out else out) []
theorem GJ(fx fy:Bool)(f:aq→Bool)(l:List aq):(sK fx fy f l).Perm (l.filter f):=by
 have key:∀(l out:List aq),(l.foldl (fun out q=>if f q then nx fx fy q out else out) out).Perm (out++l.filter f):=by
  intro l
  induction l with
  | nil=>intro out;simp
  | cons q l ck =>
   intro out;rw[tR,List.filter_cons]
   by_cases aj:f q=true
   ·rw[if_pos aj,if_pos aj];refine(ck _).trans ?_;refine((BH fx fy q out).append_right _).trans ?_;exact List.perm_middle.symm
   ·rw[if_neg aj,if_neg aj];exact ck out
 exact key l []
theorem akA(fx fy:Bool)(f:aq→Bool)(l:List aq):(sK fx fy f l).length≤l.length:=by
 rw[(GJ fx fy f l).length_eq];exact List.length_filter_le _ _
theorem aky(fx fy:Bool)(f:aq→Bool){l:List aq}(aA:l.Nodup):k5 fx fy (sK fx fy f l):=by
 have key:∀(l out:List aq),k5 fx fy out→(out++l).Nodup→k5 fx fy (l.foldl (fun out q=>if f q then nx fx fy q out else out) out):=by
  intro l
  induction l with
  | nil=>intro out h _;exact h
  | cons q l ck =>
   intro out h hd;have hm:=List.nodup_append.1 hd;have aj:q∉out:=fun jX=>hm.2.2 q jX q (hn ..) rfl;rw[tR]
   by_cases ay:f q=true
   ·rw[if_pos ay];refine ck _ (QM h aj) ?_;have hp:(nx fx fy q out++l).Perm (out++q::l):=((BH fx fy q out).append_right l).trans List.perm_middle.symm;exact hp.nodup_iff.2 hd
   ·rw[if_neg ay];refine ck _ h ?_;exact hd.sublist (List.Sublist.append_left (List.sublist_cons_self q l) out)
 exact key l [] List.Pairwise.nil (by simpa using aA)
theorem KK(lt:aq→aq→Bool):∀a b,(e5 lt a b).Perm (a++b):=by
 intro a b
 induction a,b using e5.induct lt with
 | case1 b=>simp[e5]
 | case2 x a=>simp[e5]
 | case3 x a y b h ck =>
  rw[e5,if_pos h];exact(ck.cons y).trans List.perm_middle.symm
 | case4 x a y b h ck =>
  rw[e5,if_neg h];exact ck.cons x
theorem afS{fx fy:Bool}:∀a b,k5 fx fy a→k5 fx fy b→(a++b).Nodup→k5 fx fy (e5 (dX fx fy) a b):=by
 intro a b
 induction a,b using e5.induct (dX fx fy) with
 | case1 b=>intro _ h _;simpa [e5] using h
 | case2 x a=>intro h _ _;simpa [e5] using h
 | case3 x a y b h ck =>
  intro aX aa hd;rw[e5,if_pos h];have EN:=j9.1 aa;have dq:=j9.1 aX;have tn:(x::a++b).Nodup:=hd.sublist (List.Sublist.append_left (List.sublist_cons_self y b) (x::a));refine j9.2 ⟨fun r ao => ?_,ck aX EN.2 tn⟩;rcases j7.1 ((KK _ _ _).mem_iff.1 ao) with ao|ao
  ·rcases fe.1 ao with rfl|ao
   ·exact h
   ·exact Ab h (dq.1 r ao)
  ·exact EN.1 r ao
 | case4 x a y b h ck =>
  intro aX aa hd;rw[e5,if_neg h];have EN:=j9.1 aa;have dq:=j9.1 aX;have me:x≠y:=fun e=>(List.nodup_append.1 hd).2.2 x (hn ..) y (hn ..) e;have bb:dX fx fy x y=true:=(HE me).resolve_right h;have tn:(a++y::b).Nodup:=(List.nodup_cons.1 hd).2;refine j9.2 ⟨fun r ao => ?_,ck dq.2 aa tn⟩;rcases j7.1 ((KK _ _ _).mem_iff.1 ao) with ao|ao
  ·exact dq.1 r ao
  ·rcases fe.1 ao with rfl|ao
   ·exact bb
   ·exact Ab bb (EN.1 r ao)
theorem CK(lt:aq→aq→Bool):∀(N:Nat) (l:List aq),l.length≤N→(jG lt l).Perm l
 | N,l,h=>by
  by_cases q:l.length<2
  ·rw[jG,dif_pos q]
  ·match N with
   | 0=>omega
   | N+1 =>
    rw[jG,dif_neg q];refine(KK lt _ _).trans ?_;refine((CK lt N _ (by simp;omega)).append (CK lt N _ (by simp;omega))).trans ?_;rw[j8]
theorem LY{fx fy:Bool}:∀(N:Nat) (l:List aq),l.length≤N→l.Nodup→k5 fx fy (jG (dX fx fy) l)
 | N,l,h,hd=>by
  by_cases q:l.length<2
  ·rw[jG,dif_pos q]
   match l,q with
   | [],_=>exact .nil
   | [x],_=>unfold k5;simp
   | x::y::l,q=>exact absurd q (by simp)
  ·match N with
   | 0=>omega
   | N+1 =>
    rw[jG,dif_neg q];refine afS _ _ (LY N _ (by simp;omega) (hd.sublist (List.take_sublist _ _))) (LY N _ (by simp;omega) (hd.sublist (List.drop_sublist _ _))) ?_;have hp:=(CK (dX fx fy) N (l.take (l.length/2)) (by simp;omega)).append (CK (dX fx fy) N (l.drop (l.length/2)) (by simp;omega));rw[j8] at hp;exact hp.nodup_iff.2 hd
theorem akM{fx fy:Bool}{f:aq→Bool}{l m:List aq}(aA:l.Nodup)(hp:m.Perm (l.filter f)):jG (dX fx fy) m=sK fx fy f l :=
 Ns (LY _ m (cH _) (hp.nodup_iff.2 (aA.sublist List.filter_sublist))) (aky fx fy f aA) ((CK _ _ m (cH _)).trans (hp.trans (GJ fx fy f l).symm))
end Go.Proofs.YtklpfooafbjnpaaGreat
namespace Go.Proofs.YtklpfooafbjnpaaGreat
open Go.RowKit
def CO(P:Program)(rY:TypeId)(agg:Bool)(n:Nat):Bool:=match lx P rY with
 | some (b,m)=>Bool.beq b agg&&Nat.beq m n
 | none=>false
where Bool.beq:Bool→Bool→Bool
 | true,true=>true
 | false,false=>true
 | _,_=>false
def ID(P:Program)(ty i off:Nat)(agg:Bool)(n:Nat):Bool:=match P.underlying ty with
 | some (.struct bp)=>match bp[i]? with
  | some f=>Nat.beq f.offset off&&CO P f.type agg n
  | none=>false
 | _=>false
def Kd(P:Program)(ty len:Nat)(agg:Bool)(n:Nat):Bool:=match P.underlying ty with
 | some (.array l e)=>Nat.beq l len&&CO P e agg n&&(match P.info? e with|some t=>Nat.beq t.size n|none=>false)
 | _=>false
class Da (P:Program) (ty i:Nat) (off:outParam Nat) (agg:outParam Bool) (n:outParam Nat):Prop where
 h:ID P ty i off agg n=true
class Hi (P:Program) (ty:Nat) (len:outParam Nat) (agg:outParam Bool) (n:outParam Nat):Prop where
 h:Kd P ty len agg n=true
section
variable{P:Program}
theorem Vm{rY n:Nat}{agg:Bool}(h:CO P rY agg n=true):lx P rY=some (agg,n):=by
 unfold CO at h
 split at h
 ·rename_i b m aa;rw[eb] at h;have e:=gd h.2;have aN:b=agg:=by cases b <;> cases agg <;> simp[CO.Bool.beq] at h ⊢
  rw[aa,e,aN]
 ·cases h
theorem Uw{rY n off:Nat}{cs:List Value}{v:Value}{W:World}(h:lx P rY=some (false,n))(hv:cs[off]?=some v):(part rY cs.toArray off).run P W = .ok v W:=by
 unfold lx at h;cases hu:P.underlying rY with
 | none=>rw[hu] at h;cases h
 | some D =>
  have h1:(isAgg rY).run P W = .ok false W:=by
   unfold isAgg;simp only[Sem.run_bind,run_underlying hu,Result.andThen_ok];cases hi:P.info? rY with
   | none=>rw[hu,hi] at h;cases D <;> first|rfl|(cases h)
   | some eH=>rw[hu,hi] at h;cases D <;> first|rfl|(cases h)
  unfold part;simp only[Sem.run_bind,h1,Result.andThen_ok,Bool.false_eq_true,if_false,List.getElem?_toArray,hv,Sem.run_pure]
variable{s:aB}{ops:Array Oper}{K:aB→Prop}{rest:List Oper}{ty:Nat}{pos:String}{after:Array Edge}{guard:Option (Nat×Bool)}{d:Nat}
theorem aar{df i off n:Nat}{agg:Bool}(h:ID P df i off agg n=true):∃bp f,P.underlying df=some (.struct bp)∧bp[i]?=some f∧f.offset=off∧lx P f.type=some (agg,n):=by
 unfold ID at h
 split at h
 ·rename_i bp hu
  split at h
  ·rename_i f ay;rw[eb] at h;exact⟨bp,f,hu,ay,gd h.1,Vm h.2⟩
  ·cases h
 ·cases h
theorem ad4{df len n:Nat}{agg:Bool}(h:Kd P df len agg n=true):∃e t,P.underlying df=some (.array len e)∧P.info? e=some t∧t.size=n∧lx P e=some (agg,n):=by
 unfold Kd at h
 split at h
 ·rename_i l e hu;simp only[eb] at h;obtain⟨⟨h1,h2⟩,ar⟩:=h
  split at ar
  ·rename_i t aD;exact⟨e,t,by rw[hu,gd h1],aD,gd ar,Vm h2⟩
  ·cases ar
 ·cases h
theorem XV{x:Operand}{df i off n:Nat}{xs:List AC}{y:AC} [F:Da P df i off false n](hw:want ops ⟨some d,.field df x i,ty,pos,after,guard⟩ s=some true)(ab:s.look x=some (.w (.agg xs)))(ak:xs[off]?=some y)(hd:Nat.blt d s.n=true)(h:bk P ops K rest (s.put (some d) (.w (.one y)))):bk P ops K (⟨some d,.field df x i,ty,pos,after,guard⟩::rest) s:=by
 refine fU hw ⟨fun _ _ h=>(by cases h),fun z aR => ?_,fun U ad W env he => ?_,fun j af=>⟨x,by simp[Op.operands],_,ab,?_⟩⟩ hd h
 ·simp[Op.operands] at aR;subst aR;exact⟨_,ab⟩
 ·obtain⟨vs,aI,al⟩:=he x (by simp[Op.operands]) _ ab;obtain⟨bp,f,hu,ay,aC,eP⟩:=aar F.h;have bb:off<vs.length:=by rw[←al.1];exact(br.1 ak).1
  refine⟨vs[off],?_,al.2 off y _ ak (bG bb)⟩;simp only[execOp,Instr.field,aI,Sem.run_bind,run_underlying hu,Result.andThen_ok,ay,asAgg,Sem.run_pure,aC,Uw eP (bG bb)]
 ·obtain⟨z,aR,BD⟩:=af;simp[bD.cells] at aR;subst aR;exact⟨z,cP ak,BD⟩
theorem Ng{x y:Operand}{df len n:Nat}{gD:IntKind}{i:Int}{xs:List AC}{z:AC} [A:Hi P df len false n](hw:want ops ⟨some d,.index df x y,ty,pos,after,guard⟩ s=some true)(ab:s.look x=some (.w (.agg xs)))(ai:s.look y=some (aQ (.int gD i)))(aF:0≤i)(h1:i<len)(ak:xs[i.toNat*n]?=some z)(hd:Nat.blt d s.n=true)(h:bk P ops K rest (s.put (some d) (.w (.one z)))):bk P ops K (⟨some d,.index df x y,ty,pos,after,guard⟩::rest) s:=by
 refine fU hw ⟨fun _ _ h=>(by cases h),fun z aR => ?_,fun U ad W env he => ?_,fun j af=>⟨x,by simp[Op.operands],_,ab,?_⟩⟩ hd h
 ·simp[Op.operands] at aR;rcases aR with rfl|rfl
  ·exact⟨_,ab⟩
  ·exact⟨_,ai⟩
 ·obtain⟨vs,aI,al⟩:=he x (by simp[Op.operands]) _ ab;have hi:env y = .int gD i:=(he y (by simp[Op.operands]) _ ai).1;obtain⟨e,t,hu,aD,hs,eP⟩:=ad4 A.h;have bb:i.toNat*n<vs.length:=by rw[←al.1];exact(br.1 ak).1
  refine⟨vs[i.toNat*n],?_,al.2 _ z _ ak (bG bb)⟩;simp only[execOp,Instr.index,aI,hi,asIntOf,Sem.run_bind,Sem.run_pure,Result.andThen_ok,run_underlying hu,if_pos (And.intro aF h1),ia aD,hs,Uw eP (bG bb)]
 ·obtain⟨u,hu,adv⟩:=af;simp[bD.cells] at hu;subst hu;exact⟨u,cP ak,adv⟩
theorem XQ{df dW:Nat}{x y:Operand}{a b:Bool}(hw:want ops ⟨some d,.binOp .eql df x y dW,ty,pos,after,guard⟩ s=some true)(ab:s.look x=some (bl a))(ai:s.look y=some (bl b))(hd:Nat.blt d s.n=true)(hu:P.underlying df=some .bool)(h:bk P ops K rest (s.put (some d) (bl (a==b)))):bk P ops K (⟨some d,.binOp .eql df x y dW,ty,pos,after,guard⟩::rest) s :=
 xV hw ab ai rfl rfl (fun W=>rfl) (fun W=>run_eql_bool W df a b hu) rfl hd h
end
theorem Td{P:Program}{f:FuncId}{args nU:List ag}{r:ag}(h:aO P f args r)(ha:nU.all ag.aW=true)(al:nU.length=args.length)(hle:∀(i:Nat) x y,nU[i]?=some x→args[i]?=some y→x.aV y):aO P f nU r :=
 ⟨fun x ab=>ag.c6 (b5.1 ha x ab),h.cn,fun U W vs cL=>h.call U W vs ⟨by rw[←al];exact cL.1,fun i y v ai hv=>by
  have hi:i<nU.length:=by rw[al];exact(br.1 ai).1
  exact hle i _ y (bG hi) ai U id W v (cL.2 i _ v (bG hi) hv)⟩⟩
abbrev Md:ag:=aQ (.slice none 0 0)
theorem nil_le(z:Nat):Md.aV (cD z 0 []):=fun U ad W v h=>by
 obtain⟨rfl,_⟩:=h;exact⟨⟨none,0,rfl,cH _,by simp,fun h=>absurd h (Nat.lt_irrefl _)⟩,fun b ⟨c,a,q,aA,_⟩=>absurd aA (Nat.lt_irrefl _)⟩
end Go.Proofs.YtklpfooafbjnpaaGreat
namespace Go.Proofs.YtklpfooafbjnpaaGreat
open Go.RowKit
end Go.Proofs.YtklpfooafbjnpaaGreat
namespace Go.Proofs.YtklpfooafbjnpaaGreat
open Go.RowKit
end Go.Proofs.YtklpfooafbjnpaaGreat
namespace Go.Proofs.YtklpfooafbjnpaaGreat
open Go.RowKit
theorem aiD(j:Nat):(0:Int)<2^j∧(2:Int)^j<10000^(j+1):=by
 induction j with
 | zero=>decide
 | succ j ck=>rw[Int.pow_succ,Int.pow_succ (10000:Int) (j+1)];omega
end Go.Proofs.YtklpfooafbjnpaaGreat
namespace Go.Proofs
open Go.Shelf
def Tryz.afh:Go.Shelf.Ren:=⟨fun|134=>339|129=>334|n=>n,fun|53=>178|3=>3|4=>4|46=>288|5=>5|9=>9|n=>n,fun|n=>n⟩
theorem Tryz.afg:Go.Proofs.Lays.n134 ah Tryz.afh:={
 mixed:=by kernel_rfl
 f129:=Tryz.func334.trans (congrArg some (by kernel_rfl))
 f134:=Tryz.func339.trans (congrArg some (by kernel_rfl))
 t3:=Tryz.underlying3
 a3:=Tryz.isAgg3
 z3:=Tryz.sizeOf3
 v3:=Tryz.zeroValue3
 t4:=Tryz.underlying4
 a4:=Tryz.isAgg4
 z4:=Tryz.sizeOf4
 v4:=Tryz.zeroValue4
 t5:=Tryz.underlying5
 a5:=Tryz.isAgg5
 z5:=Tryz.sizeOf5
 v5:=Tryz.zeroValue5
 t9:=Tryz.underlying9
 a9:=Tryz.isAgg9
 z9:=Tryz.sizeOf9
 v9:=Tryz.zeroValue9
 t46:=Tryz.underlying288
 a46:=Tryz.isAgg288
 z46:=Tryz.sizeOf288
 v46:=Tryz.zeroValue288
 t53:=Tryz.underlying178
 a53:=Tryz.isAgg178
 z53:=Tryz.sizeOf178
 v53:=Tryz.zeroValue178}
theorem Tryz.bits_LeadingZeros64(x:Int)(w:World)(aF:0≤x)(h1:x≤18446744073709551615) :
  Calls ah 339 #[.int .u64 x] w fun e w'=>e = .returned (.int .i64 (64-(Lib.bitLen x.toNat:Int)))∧w'=w:=Any.bits_LeadingZeros64 Tryz.afg x w aF h1
def Tryz.aff:Go.Shelf.Ren:=⟨fun|129=>334|n=>n,fun|53=>178|3=>3|4=>4|46=>288|5=>5|9=>9|n=>n,fun|n=>n⟩
theorem Tryz.afe:Go.Proofs.Lays.n129 ah Tryz.aff:={
 mixed:=by kernel_rfl
 f129:=Tryz.func334.trans (congrArg some (by kernel_rfl))
 t3:=Tryz.underlying3
 a3:=Tryz.isAgg3
 z3:=Tryz.sizeOf3
 v3:=Tryz.zeroValue3
 t4:=Tryz.underlying4
 a4:=Tryz.isAgg4
 z4:=Tryz.sizeOf4
 v4:=Tryz.zeroValue4
 t5:=Tryz.underlying5
 a5:=Tryz.isAgg5
 z5:=Tryz.sizeOf5
 v5:=Tryz.zeroValue5
 t9:=Tryz.underlying9
 a9:=Tryz.isAgg9
 z9:=Tryz.sizeOf9
 v9:=Tryz.zeroValue9
 t46:=Tryz.underlying288
 a46:=Tryz.isAgg288
 z46:=Tryz.sizeOf288
 v46:=Tryz.zeroValue288
 t53:=Tryz.underlying178
 a53:=Tryz.isAgg178
 z53:=Tryz.sizeOf178
 v53:=Tryz.zeroValue178}
theorem Tryz.bits_Len64(x:Int)(w:World)(aF:0≤x)(h1:x≤18446744073709551615) :
  Calls ah 334 #[.int .u64 x] w fun e w'=>e = .returned (.int .i64 (Lib.bitLen x.toNat))∧w'=w:=Any.bits_Len64 Tryz.afe x w aF h1
def Tryz.afj:Go.Shelf.Ren:=⟨fun|264=>292|n=>n,fun|53=>178|46=>288|n=>n,fun|n=>n⟩
theorem Tryz.afi:Go.Proofs.Lays.n264 ah Tryz.afj:={
 mixed:=by kernel_rfl
 f264:=Tryz.func292.trans (congrArg some (by kernel_rfl))
 t46:=Tryz.underlying288
 a46:=Tryz.isAgg288
 z46:=Tryz.sizeOf288
 v46:=Tryz.zeroValue288
 t53:=Tryz.underlying178
 a53:=Tryz.isAgg178
 z53:=Tryz.sizeOf178
 v53:=Tryz.zeroValue178}
open Go.RowKit Go.Lib in
theorem Tryz.bits_Mul64(x y:Nat)(ab:x<18446744073709551616)(ai:y<18446744073709551616)(w:World) :
  Calls ah 292 #[.int .u64 x,.int .u64 y] w fun e w'=>e = .returned (.tuple #[.int .u64 ((x*y/18446744073709551616:Nat):Int),.int .u64 ((x*y % 18446744073709551616:Nat):Int)])∧w'=w:=Any.bits_Mul64 Tryz.afi x y ab ai w
end Go.Proofs
