/-
  My own texts,without what this claim does not need. My own text.
-/
import Derived.Test.YtklpfooafbjnpaaGreatProg
import Derived.ProofKit
import Derived.Laws.StructEq
import Derived.Shelf.Small.Bits
import Derived.Shelf.Strconv.Itoa0
import Derived.Shelf.Bits.Mul64
import Derived.Test.YtklpfooafbjnpaaGreatSLPartsK6
set_option maxRecDepth 100000
set_option maxHeartbeats 64000000
set_option linter.unusedVariables false
set_option linter.unusedSimpArgs false
set_option linter.unusedSectionVars false
open Go.Proofs.Tryz renaming prog → ah
namespace Go.Proofs.YtklpfooafbjnpaaGreat
open Go.RowKit
structure Ak where
 ty:List (Nat×Bool×Nat)
 zero:List (Nat×List Value)
 pg:List (Nat×List (Nat×Nat))
 oC:List (Nat×Nat×Nat)
 jG:List (Nat×List (Nat×Nat))
def mI{α:Type}(R:α→Prop):List α→Prop
 | []=>True
 | a::l=>R a∧mI R l
theorem r0{α:Type}{R:Nat×α→Prop}{k:Nat}{v:α}:∀(l:List (Nat×α)),mI R l→gC l k=some v→R (k,v)
 | [],_,h=>by cases h
 | (j,u)::l,al,h=>by
  simp only[gC] at h;cases aa:Nat.beq k j with
  | true=>rw[aa] at h;cases h;obtain rfl:=gn aa;exact al.1
  | false=>rw[aa] at h;exact r0 l al.2 h
class HO (P:Program) (T:outParam Ak):Prop where
 ty:mI (fun p=>lD P p.1=some p.2) T.ty
 zero:mI (fun p=>zeroOf P p.1=some p.2) T.zero
 pg:mI (fun p=>mI (fun q=>wI P p.1 q.1=some q.2) p.2) T.pg
 oC:mI (fun p=>D2 P p.1=some p.2) T.oC
 jG:mI (fun p=>Gw P p.1=some p.2) T.jG
def T4(b:BinOp)(m n:Int):Option Bool :=
 match b with
 | .lss=>some (decide (m<n))
 | .leq=>some (decide (m≤n))
 | .gtr=>some (decide (n<m))
 | .geq=>some (decide (n≤m))
 | .eql=>some (decide (m=n))
 | .neq=>some (!decide (m=n))
 | _=>none
def ov(T:Ak)(s:aB)(d:Nat):Op→Option aB
 | .move x=>match s.look x with
  | some av=>some (s.put (some d) av)
  | none=>none
 | .assign x=>match s.look x with
  | some av=>some (s.put (some d) av)
  | none=>none
 | .pick c x y=>match s.look c,s.look x,s.look y with
  | some (.w (.one (.c (.bool true)))),some av,some _=>some (s.put (some d) av)
  | some (.w (.one (.c (.bool false)))),some _,some bv=>some (s.put (some d) bv)
  | _,_,_=>none
 | .alloc t=>match gC T.zero t,s.mem d with
  | some vs,none=>bif vs.all fun v=>v.oneCell' then some ((s.ep d (vs.map .c)).put (some d) (nS d 0)) else none
  | _,_=>none
 | .box _ x=>match s.look x,s.mem d with
  | some (.w z),none=>some ((s.ep d z.cells).put (some d) (nS d 0))
  | _,_=>none
 | .load t x=>match s.look x with
  | some (.w (.one (.own k off)))=>match s.mem k with
   | some cs=>match gC T.ty t with
    | some (false,_)=>match cs[off]? with
     | some y=>some (s.put (some d) (.w (.one y)))
     | none=>none
    | some (true,n)=>match takeN cs off n with
     | some ys=>some (s.put (some d) (.w (.agg ys)))
     | none=>none
    | none=>none
   | none=>none
  | _=>none
 | .fieldAddr t x i=>match s.look x with
  | some (.w (.one (.own k off)))=>match gC T.pg t with
   | some l=>match gC l i with
    | some kt=>some (s.put (some d) (nS k (off+kt)))
    | none=>none
   | none=>none
  | _=>none
 | .indexAddr t x y=>match s.look x,s.look y with
  | some (.w (.one (.own k off))),some (.w (.one (.c (.int _ i))))=>match gC T.oC t with
   | some (n,size)=>bif decide (0≤i)&&decide (i<n) then some (s.put (some d) (nS k (off+i.toNat*size))) else none
   | none=>none
  | _,_=>none
 | .extract x i=>match s.look x with
  | some (.ck xs)=>match xs[i]? with
   | some y=>some (s.put (some d) (.w y))
   | none=>none
  | _=>none
 | .build t parts=>match oR s.look parts.toList,gC T.zero t,gC T.jG t with
  | some zs,some vs,some ps=>match r1 ps (vs.map .c) zs with
   | some r=>bif vs.all fun v=>v.oneCell' then some (s.put (some d) (.w (.agg r))) else none
   | none=>none
  | _,_,_=>none
 | .binOp b _ x y _=>match s.look x,s.look y with
  | some (.w (.one (.c (.int k m)))),some (.w (.one (.c (.int k' n))))=>match decEq k k' with
   | isTrue _=>match T4 b m n with
    | some r=>some (s.put (some d) (bl r))
    | none=>none
   | isFalse _=>none
  | _,_=>none
 | .unOp .not _ x=>match s.look x with
  | some (.w (.one (.c (.bool b))))=>some (s.put (some d) (bl (!b)))
  | _=>none
 | _=>none
def T6(T:Ak)(ops:Array Oper)(s:aB)(o:Oper):Option aB :=
 match want ops o s with
 | some true=>match o.dst with
  | some d=>bif Nat.blt d s.n then ov T s d o.op else none
  | none=>match o.op with
   | .store t x y=>match s.look x,s.look y with
    | some (.w (.one (.own k off))),some (.w z)=>match s.mem k,gC T.ty t with
     | some cs,some (_,n)=>bif Nat.beq n z.cells.length then(match qt cs off z.cells with
      | some ds=>some (s.ep k ds)
      | none=>none) else none
     | _,_=>none
    | _,_=>none
   | _=>none
 | some false=>match o.dst with
  | some d=>bif Nat.blt d s.n then some (s.put (some d) (.ck [])) else none
  | none=>some s
 | none=>none
section
variable{P:Program}{T:Ak}{s s':aB}{ops:Array Oper}{K:aB→Prop}{rest:List Oper}
theorem YU [Q:HO P T]{d ty:Nat}{op:Op}{pos:String}{after:Array Edge}{guard:Option (Nat×Bool)}(hw:want ops ⟨some d,op,ty,pos,after,guard⟩ s=some true)(hd:Nat.blt d s.n=true)(h:ov T s d op=some s')(k:bm P ops K rest s') :
  bm P ops K (⟨some d,op,ty,pos,after,guard⟩::rest) s:=by
 cases op with
 | move x =>
  simp only[ov] at h
  split at h
  ·rename_i av ab;cases h;exact YI hw ab hd k
  ·cases h
 | assign x =>
  simp only[ov] at h
  split at h
  ·rename_i av ab;cases h;exact Yi hw ab hd k
  ·cases h
 | pick c x y =>
  simp only[ov] at h
  split at h
  ·rename_i av bv ak ab ai;cases h;exact YT hw ak ab ai hd k
  ·rename_i av bv ak ab ai;cases h;exact YS hw ak ai ab hd k
  ·cases h
 | alloc t =>
  simp only[ov] at h
  split at h
  ·rename_i vs aS hm;have ed:=r0 _ Q.zero aS;cases h1:(vs.all fun v=>v.oneCell') with
   | true =>
    rw[h1] at h;cases h;have:DO P t vs:=⟨ed⟩;exact Yh hw hm h1 hd k
   | false=>rw[h1] at h;cases h
  ·cases h
 | box t x =>
  simp only[ov] at h
  split at h
  ·rename_i z ab hm;cases h;exact Yj hw ab hm hd k
  ·cases h
 | load t x =>
  simp only[ov] at h
  split at h
  ·rename_i j off ab
   split at h
   ·rename_i cs hm
    split at h
    ·rename_i n eS;have Bi:=r0 _ Q.ty eS
     split at h
     ·rename_i y ak;cases h;have:e7 P t false n:=⟨Bi⟩;exact YC hw ab hm ak hd k
     ·cases h
    ·rename_i n eS;have Bi:=r0 _ Q.ty eS
     split at h
     ·rename_i ys ak;cases h;have:e7 P t true n:=⟨Bi⟩;exact YD hw ab hm ak hd k
     ·cases h
    ·cases h
   ·cases h
  ·cases h
 | fieldAddr t x i =>
  simp only[ov] at h
  split at h
  ·rename_i j off ab
   split at h
   ·rename_i l al
    split at h
    ·rename_i kt aw;have hF:=r0 _ (r0 _ Q.pg al) aw;cases h;have:qE P t i kt:=⟨hF⟩;exact Yw hw ab hd k
    ·cases h
   ·cases h
  ·cases h
 | indexAddr t x y =>
  simp only[ov] at h
  split at h
  ·rename_i j off gI i ab ai
   split at h
   ·rename_i n size ct;have A7:=r0 _ Q.oC ct;cases h1:(decide (0≤i)&&decide (i<(n:Int))) with
    | true =>
     rw[h1] at h;cases h;rw[eg,cT,cT] at h1;have:MS P t n size:=⟨A7⟩;exact NJ hw ab ai h1.1 h1.2 hd k
    | false=>rw[h1] at h;cases h
   ·cases h
  ·cases h
 | extract x i =>
  simp only[ov] at h
  split at h
  ·rename_i xs ab
   split at h
   ·rename_i y ai;cases h;exact Yu hw ab ai hd k
   ·cases h
  ·cases h
 | build t parts =>
  simp only[ov] at h
  split at h
  ·rename_i zs vs ps aS hv hp;have ed:=r0 _ Q.zero hv;have dp:=r0 _ Q.jG hp
   split at h
   ·rename_i r ao;cases h1:(vs.all fun v=>v.oneCell') with
    | true =>
     rw[h1] at h;cases h;have:DO P t vs:=⟨ed⟩;have:Nf P t ps:=⟨dp⟩;have g:bm P ops K (⟨some d,.build t parts.toList.toArray,ty,pos,after,guard⟩::rest) s:=Yk (by rw[Array.toArray_toList];exact hw) aS ao h1 hd k;rwa [Array.toArray_toList] at g
    | false=>rw[h1] at h;cases h
   ·cases h
  ·cases h
 | binOp b dl x y dN =>
  simp only[ov] at h
  split at h
  ·rename_i gI m an2 n ab ai
   split at h
   ·rename_i e he;subst e;cases b <;> simp only[T4] at h <;> cases h
    ·exact Yr hw ab ai hd k
    ·exact YM hw ab ai hd k
    ·exact YE hw ab ai hd k
    ·exact YB hw ab ai hd k
    ·exact Yz hw ab ai hd k
    ·exact Yy hw ab ai hd k
   ·cases h
  ·cases h
 | unOp u dl x =>
  cases u <;> simp only[ov] at h <;> try (cases h;done)
  split at h
  ·rename_i b ab;cases h;exact YR hw ab hd k
  ·cases h
 | _=>simp only[ov] at h;cases h
theorem ga [Q:HO P T]{o:Oper}(h:T6 T ops s o=some s')(k:bm P ops K rest s'):bm P ops K (o::rest) s:=by
 obtain⟨dst,op,ty,pos,after,guard⟩:=o;unfold T6 at h
 split at h
 ·rename_i hw;cases dst with
  | some d =>
   simp only at h;cases hd:Nat.blt d s.n with
   | true=>rw[hd] at h;exact YU hw hd h k
   | false=>rw[hd] at h;cases h
  | none =>
   simp only at h
   split at h
   ·rename_i t x y
    split at h
    ·rename_i j off z ab ai
     split at h
     ·rename_i cs b n hm eS;have Bi:=r0 _ Q.ty eS;cases aA:Nat.beq n z.cells.length with
      | true =>
       rw[aA] at h;simp only[cond_true] at h
       split at h
       ·rename_i ds hp;cases h;have:e7 P t b n:=⟨Bi⟩;exact Y1 hw ab ai hm aA hp k
       ·cases h
      | false=>rw[aA] at h;cases h
     ·cases h
    ·cases h
   ·cases h
 ·rename_i hw;cases dst with
  | some d =>
   simp only at h;cases hd:Nat.blt d s.n with
   | true=>rw[hd] at h;cases h;exact NM hw (fun d' e=>by cases e;exact hd) k
   | false=>rw[hd] at h;cases h
  | none=>cases h;exact NM hw (fun d' e=>by cases e) k
 ·cases h
end
end Go.Proofs.YtklpfooafbjnpaaGreat
namespace Go.Proofs.YtklpfooafbjnpaaGreat
instance:e7 ah 3 false 1:=⟨by kernel_rfl⟩
instance:HG ah 3 .i64:=⟨by kernel_rfl⟩
instance:e7 ah 4 false 1:=⟨by kernel_rfl⟩
instance:nX ah 22 [.int .i64 0,.int .i64 0,.int .i64 0,.int .i64 0,.int .i64 0]:=⟨by kernel_rfl⟩
instance:hE ah 22 5:=⟨by kernel_rfl⟩
instance:e7 ah 26 false 1:=⟨by kernel_rfl⟩
instance:e7 ah 28 false 1:=⟨by kernel_rfl⟩
instance:nX ah 28 [.int .i64 0,.int .i64 0,.int .i64 0,.int .i64 0,.int .i64 0]:=⟨by kernel_rfl⟩
instance:hE ah 28 5:=⟨by kernel_rfl⟩
instance:e7 ah 41 false 1:=⟨by kernel_rfl⟩
instance:nX ah 41 [.int .i64 0,.int .i64 0]:=⟨by kernel_rfl⟩
instance:hE ah 41 2:=⟨by kernel_rfl⟩
instance:e7 ah 42 false 1:=⟨by kernel_rfl⟩
instance:nX ah 42 [.slice none 0 0,.slice none 0 0]:=⟨by kernel_rfl⟩
instance:hE ah 42 2:=⟨by kernel_rfl⟩
instance:e7 ah 44 true 10:=⟨by kernel_rfl⟩
instance:qE ah 44 0 0:=⟨by kernel_rfl⟩
instance:qE ah 44 2 2:=⟨by kernel_rfl⟩
instance:qE ah 44 9 9:=⟨by kernel_rfl⟩
instance:e7 ah 50 true 2:=⟨by kernel_rfl⟩
instance:e7 ah 51 false 1:=⟨by kernel_rfl⟩
instance:nX ah 51 [.int .i64 0]:=⟨by kernel_rfl⟩
instance:hE ah 51 1:=⟨by kernel_rfl⟩
instance:e7 ah 53 true 2:=⟨by kernel_rfl⟩
instance:qE ah 53 1 1:=⟨by kernel_rfl⟩
instance:e7 ah 60 true 2:=⟨by kernel_rfl⟩
instance:e7 ah 65 false 1:=⟨by kernel_rfl⟩
instance:nX ah 65 [.slice none 0 0]:=⟨by kernel_rfl⟩
instance:hE ah 65 1:=⟨by kernel_rfl⟩
instance:e7 ah 70 false 1:=⟨by kernel_rfl⟩
instance:e7 ah 73 true 6:=⟨by kernel_rfl⟩
instance:e7 ah 95 true 5:=⟨by kernel_rfl⟩
instance:nX ah 100 [.int .i64 0,.int .i64 0,.int .i64 0,.int .i64 0]:=⟨by kernel_rfl⟩
instance:hE ah 100 4:=⟨by kernel_rfl⟩
instance:qE ah 102 0 0:=⟨by kernel_rfl⟩
instance:qE ah 102 1 1:=⟨by kernel_rfl⟩
instance:e7 ah 121 true 6:=⟨by kernel_rfl⟩
instance:e7 ah 127 false 1:=⟨by kernel_rfl⟩
instance:nX ah 127 [.int .i64 0,.int .i64 0]:=⟨by kernel_rfl⟩
instance:hE ah 127 2:=⟨by kernel_rfl⟩
instance:e7 ah 137 true 2:=⟨by kernel_rfl⟩
instance:nX ah 144 [.int .i64 0,.int .i64 0,.int .i64 0]:=⟨by kernel_rfl⟩
instance:hE ah 144 3:=⟨by kernel_rfl⟩
instance:e7 ah 180 true 2:=⟨by kernel_rfl⟩
instance:e7 ah 182 true 4:=⟨by kernel_rfl⟩
instance:e7 ah 184 true 13:=⟨by kernel_rfl⟩
instance:e7 ah 188 true 4:=⟨by kernel_rfl⟩
instance:e7 ah 237 true 4:=⟨by kernel_rfl⟩
instance:hE ah 254 5:=⟨by kernel_rfl⟩
instance:e7 ah 288 false 1:=⟨by kernel_rfl⟩
instance:HG ah 288 .u64:=⟨by kernel_rfl⟩
instance:e7 ah 293 true 3:=⟨by kernel_rfl⟩
instance:qE ah 293 1 2:=⟨by kernel_rfl⟩
instance:nX ah 303 [.slice none 0 0]:=⟨by kernel_rfl⟩
instance:hE ah 303 1:=⟨by kernel_rfl⟩
instance:nX ah 304 [.slice none 0 0]:=⟨by kernel_rfl⟩
instance:hE ah 304 1:=⟨by kernel_rfl⟩
instance:e7 ah 321 true 3:=⟨by kernel_rfl⟩
instance:e7 ah 323 true 10:=⟨by kernel_rfl⟩
instance:e7 ah 346 true 4:=⟨by kernel_rfl⟩
instance:e7 ah 350 true 2:=⟨by kernel_rfl⟩
instance:Enters ah 16:=⟨by kernel_rfl⟩
instance:Enters ah 22:=⟨by kernel_rfl⟩
instance:Enters ah 23:=⟨by kernel_rfl⟩
instance:Enters ah 24:=⟨by kernel_rfl⟩
instance:Enters ah 28:=⟨by kernel_rfl⟩
instance:Enters ah 32:=⟨by kernel_rfl⟩
instance:Enters ah 33:=⟨by kernel_rfl⟩
instance:Enters ah 37:=⟨by kernel_rfl⟩
instance:Enters ah 38:=⟨by kernel_rfl⟩
instance:Enters ah 39:=⟨by kernel_rfl⟩
instance:Enters ah 43:=⟨by kernel_rfl⟩
instance:Enters ah 44:=⟨by kernel_rfl⟩
instance:Enters ah 45:=⟨by kernel_rfl⟩
instance:Enters ah 47:=⟨by kernel_rfl⟩
instance:Enters ah 48:=⟨by kernel_rfl⟩
instance:Enters ah 49:=⟨by kernel_rfl⟩
instance:Enters ah 51:=⟨by kernel_rfl⟩
instance:Enters ah 52:=⟨by kernel_rfl⟩
instance:Enters ah 53:=⟨by kernel_rfl⟩
instance:Enters ah 54:=⟨by kernel_rfl⟩
instance:Enters ah 56:=⟨by kernel_rfl⟩
instance:Enters ah 57:=⟨by kernel_rfl⟩
instance:Enters ah 58:=⟨by kernel_rfl⟩
instance:Enters ah 59:=⟨by kernel_rfl⟩
instance:Enters ah 60:=⟨by kernel_rfl⟩
instance:Enters ah 61:=⟨by kernel_rfl⟩
instance:Enters ah 62:=⟨by kernel_rfl⟩
instance:Enters ah 63:=⟨by kernel_rfl⟩
instance:Enters ah 72:=⟨by kernel_rfl⟩
instance:Enters ah 73:=⟨by kernel_rfl⟩
instance:Enters ah 74:=⟨by kernel_rfl⟩
instance:Enters ah 75:=⟨by kernel_rfl⟩
instance:Enters ah 76:=⟨by kernel_rfl⟩
instance:Enters ah 80:=⟨by kernel_rfl⟩
instance:Enters ah 81:=⟨by kernel_rfl⟩
instance:Enters ah 82:=⟨by kernel_rfl⟩
instance:Enters ah 83:=⟨by kernel_rfl⟩
instance:Enters ah 84:=⟨by kernel_rfl⟩
instance:Enters ah 92:=⟨by kernel_rfl⟩
instance:Enters ah 93:=⟨by kernel_rfl⟩
instance:Enters ah 94:=⟨by kernel_rfl⟩
instance:Enters ah 95:=⟨by kernel_rfl⟩
instance:Enters ah 96:=⟨by kernel_rfl⟩
instance:Enters ah 97:=⟨by kernel_rfl⟩
instance:Enters ah 98:=⟨by kernel_rfl⟩
instance:Enters ah 99:=⟨by kernel_rfl⟩
instance:Enters ah 100:=⟨by kernel_rfl⟩
instance:Enters ah 102:=⟨by kernel_rfl⟩
instance:Enters ah 103:=⟨by kernel_rfl⟩
instance:Enters ah 104:=⟨by kernel_rfl⟩
instance:Enters ah 105:=⟨by kernel_rfl⟩
instance:Enters ah 106:=⟨by kernel_rfl⟩
instance:Enters ah 107:=⟨by kernel_rfl⟩
instance:Enters ah 108:=⟨by kernel_rfl⟩
instance:Enters ah 109:=⟨by kernel_rfl⟩
instance:Enters ah 110:=⟨by kernel_rfl⟩
instance:Enters ah 129:=⟨by kernel_rfl⟩
instance:Enters ah 130:=⟨by kernel_rfl⟩
instance:Enters ah 131:=⟨by kernel_rfl⟩
instance:Enters ah 132:=⟨by kernel_rfl⟩
instance:Enters ah 133:=⟨by kernel_rfl⟩
instance:Enters ah 134:=⟨by kernel_rfl⟩
instance:Enters ah 135:=⟨by kernel_rfl⟩
instance:Enters ah 136:=⟨by kernel_rfl⟩
instance:Enters ah 137:=⟨by kernel_rfl⟩
instance:Enters ah 138:=⟨by kernel_rfl⟩
instance:Enters ah 139:=⟨by kernel_rfl⟩
instance:Enters ah 140:=⟨by kernel_rfl⟩
instance:Enters ah 141:=⟨by kernel_rfl⟩
instance:Enters ah 142:=⟨by kernel_rfl⟩
instance:Enters ah 143:=⟨by kernel_rfl⟩
instance:Enters ah 144:=⟨by kernel_rfl⟩
instance:Enters ah 145:=⟨by kernel_rfl⟩
instance:Enters ah 146:=⟨by kernel_rfl⟩
instance:Enters ah 151:=⟨by kernel_rfl⟩
instance:Enters ah 153:=⟨by kernel_rfl⟩
instance:Enters ah 154:=⟨by kernel_rfl⟩
instance:Enters ah 155:=⟨by kernel_rfl⟩
instance:Enters ah 161:=⟨by kernel_rfl⟩
instance:Enters ah 162:=⟨by kernel_rfl⟩
instance:Enters ah 163:=⟨by kernel_rfl⟩
instance:Enters ah 166:=⟨by kernel_rfl⟩
instance:Enters ah 184:=⟨by kernel_rfl⟩
instance:Enters ah 185:=⟨by kernel_rfl⟩
instance:Enters ah 186:=⟨by kernel_rfl⟩
instance:Enters ah 187:=⟨by kernel_rfl⟩
instance:Enters ah 188:=⟨by kernel_rfl⟩
instance:Enters ah 189:=⟨by kernel_rfl⟩
instance:Enters ah 190:=⟨by kernel_rfl⟩
instance:Enters ah 191:=⟨by kernel_rfl⟩
instance:Enters ah 192:=⟨by kernel_rfl⟩
instance:Enters ah 193:=⟨by kernel_rfl⟩
instance:Enters ah 194:=⟨by kernel_rfl⟩
instance:Enters ah 195:=⟨by kernel_rfl⟩
instance:Enters ah 196:=⟨by kernel_rfl⟩
instance:Enters ah 197:=⟨by kernel_rfl⟩
instance:Enters ah 198:=⟨by kernel_rfl⟩
instance:Enters ah 199:=⟨by kernel_rfl⟩
instance:Enters ah 200:=⟨by kernel_rfl⟩
instance:Enters ah 201:=⟨by kernel_rfl⟩
instance:Enters ah 203:=⟨by kernel_rfl⟩
instance:Enters ah 204:=⟨by kernel_rfl⟩
instance:Enters ah 205:=⟨by kernel_rfl⟩
instance:Enters ah 207:=⟨by kernel_rfl⟩
instance:Enters ah 210:=⟨by kernel_rfl⟩
instance:Enters ah 212:=⟨by kernel_rfl⟩
instance:Enters ah 213:=⟨by kernel_rfl⟩
instance:Enters ah 215:=⟨by kernel_rfl⟩
instance:Enters ah 216:=⟨by kernel_rfl⟩
instance:Enters ah 217:=⟨by kernel_rfl⟩
instance:Enters ah 218:=⟨by kernel_rfl⟩
instance:Enters ah 221:=⟨by kernel_rfl⟩
instance:Enters ah 222:=⟨by kernel_rfl⟩
instance:Enters ah 223:=⟨by kernel_rfl⟩
instance:Enters ah 239:=⟨by kernel_rfl⟩
instance:Enters ah 240:=⟨by kernel_rfl⟩
instance:Enters ah 241:=⟨by kernel_rfl⟩
instance:Enters ah 242:=⟨by kernel_rfl⟩
instance:Enters ah 243:=⟨by kernel_rfl⟩
instance:Enters ah 244:=⟨by kernel_rfl⟩
instance:Enters ah 245:=⟨by kernel_rfl⟩
instance:Enters ah 246:=⟨by kernel_rfl⟩
instance:Enters ah 247:=⟨by kernel_rfl⟩
instance:Enters ah 248:=⟨by kernel_rfl⟩
instance:Enters ah 249:=⟨by kernel_rfl⟩
instance:Enters ah 250:=⟨by kernel_rfl⟩
instance:Enters ah 251:=⟨by kernel_rfl⟩
instance:Enters ah 252:=⟨by kernel_rfl⟩
instance:Enters ah 254:=⟨by kernel_rfl⟩
instance:Enters ah 255:=⟨by kernel_rfl⟩
instance:Enters ah 256:=⟨by kernel_rfl⟩
instance:Enters ah 257:=⟨by kernel_rfl⟩
instance:Enters ah 258:=⟨by kernel_rfl⟩
instance:Enters ah 259:=⟨by kernel_rfl⟩
instance:Enters ah 260:=⟨by kernel_rfl⟩
instance:Enters ah 263:=⟨by kernel_rfl⟩
instance:Enters ah 266:=⟨by kernel_rfl⟩
instance:Enters ah 276:=⟨by kernel_rfl⟩
instance:Enters ah 277:=⟨by kernel_rfl⟩
instance:Enters ah 278:=⟨by kernel_rfl⟩
instance:Enters ah 279:=⟨by kernel_rfl⟩
instance:Enters ah 280:=⟨by kernel_rfl⟩
instance:Enters ah 281:=⟨by kernel_rfl⟩
instance:Enters ah 282:=⟨by kernel_rfl⟩
instance:Enters ah 283:=⟨by kernel_rfl⟩
instance:Enters ah 284:=⟨by kernel_rfl⟩
instance:Enters ah 285:=⟨by kernel_rfl⟩
instance:Enters ah 286:=⟨by kernel_rfl⟩
instance:Enters ah 287:=⟨by kernel_rfl⟩
instance:Enters ah 288:=⟨by kernel_rfl⟩
instance:Enters ah 289:=⟨by kernel_rfl⟩
instance:Enters ah 290:=⟨by kernel_rfl⟩
instance:Enters ah 292:=⟨by kernel_rfl⟩
instance:Enters ah 293:=⟨by kernel_rfl⟩
instance:Enters ah 294:=⟨by kernel_rfl⟩
instance:Enters ah 295:=⟨by kernel_rfl⟩
instance:Enters ah 298:=⟨by kernel_rfl⟩
instance:Enters ah 299:=⟨by kernel_rfl⟩
instance:Enters ah 300:=⟨by kernel_rfl⟩
instance:Enters ah 301:=⟨by kernel_rfl⟩
instance:Enters ah 303:=⟨by kernel_rfl⟩
instance:Enters ah 304:=⟨by kernel_rfl⟩
instance:Enters ah 305:=⟨by kernel_rfl⟩
instance:Enters ah 306:=⟨by kernel_rfl⟩
instance:Enters ah 307:=⟨by kernel_rfl⟩
instance:Enters ah 308:=⟨by kernel_rfl⟩
instance:Enters ah 309:=⟨by kernel_rfl⟩
instance:Enters ah 310:=⟨by kernel_rfl⟩
instance:Enters ah 312:=⟨by kernel_rfl⟩
instance:Enters ah 313:=⟨by kernel_rfl⟩
instance:Enters ah 314:=⟨by kernel_rfl⟩
instance:Enters ah 315:=⟨by kernel_rfl⟩
instance:Enters ah 316:=⟨by kernel_rfl⟩
instance:Enters ah 317:=⟨by kernel_rfl⟩
instance:Enters ah 318:=⟨by kernel_rfl⟩
instance:Enters ah 319:=⟨by kernel_rfl⟩
instance:Enters ah 323:=⟨by kernel_rfl⟩
instance:Enters ah 324:=⟨by kernel_rfl⟩
instance:Enters ah 325:=⟨by kernel_rfl⟩
instance:Enters ah 326:=⟨by kernel_rfl⟩
instance:Enters ah 328:=⟨by kernel_rfl⟩
instance:Enters ah 329:=⟨by kernel_rfl⟩
instance:Enters ah 332:=⟨by kernel_rfl⟩
instance:Enters ah 333:=⟨by kernel_rfl⟩
instance:Enters ah 335:=⟨by kernel_rfl⟩
instance:Enters ah 336:=⟨by kernel_rfl⟩
instance:Enters ah 337:=⟨by kernel_rfl⟩
instance:Enters ah 338:=⟨by kernel_rfl⟩
instance:Enters ah 339:=⟨by kernel_rfl⟩
def tab:Ak where
 ty:=[(0,false,1),(1,false,1),(2,false,1),(3,false,1),(4,false,1),(9,false,1),(20,false,1),(22,false,1),(25,false,1),(26,false,1),(28,false,1),(41,false,1),(42,false,1),(44,true,10),(46,false,1),(50,true,2),(51,false,1),(53,true,2),(60,true,2),(63,true,5),(65,false,1),(67,true,6),(69,false,1),(70,false,1),(71,false,1),(73,true,6),(95,true,5),(97,false,1),(100,false,1),(102,true,13),(104,false,1),(111,true,4),(121,true,6),(125,false,1),(127,false,1),(130,true,5),(134,false,1),(136,false,1),(137,true,2),(139,false,1),(140,false,1),(143,false,1),(144,false,1),(146,true,1),(148,true,2),(174,false,1),(176,false,1),(178,false,1),(180,true,2),(182,true,4),(184,true,13),(186,false,1),(188,true,4),(191,false,1),(194,false,1),(196,false,1),(199,false,1),(201,true,6),(212,false,1),(213,false,1),(234,false,1),(237,true,4),(254,false,1),(262,false,1),(263,false,1),(281,false,1),(284,false,1),(288,false,1),(289,false,1),(291,false,1),(293,true,3),(298,true,5),(300,false,1),(303,false,1),(304,false,1),(305,false,1),(319,true,6),(321,true,3),(323,true,10),(325,false,1),(326,true,4),(327,false,1),(328,false,1),(330,false,1),(334,false,1),(346,true,4),(350,true,2),(351,false,1),(360,false,1),(366,false,1)]
 zero:=[(1,[.nilFunc]),(2,[.int .i64 0]),(3,[.int .i64 0]),(4,[.bool false]),(9,[.string ByteArray.empty]),(20,[.nilIface]),(22,[.slice none 0 0]),(25,[.nilFunc]),(26,[.pointer none]),(28,[.slice none 0 0]),(41,[.slice none 0 0]),(42,[.slice none 0 0]),(44,[.int .i64 0,.int .i64 0,.int .i64 0,.int .i64 0,.int .i64 0,.int .i64 0,.bool false,.slice none 0 0,.slice none 0 0,.slice none 0 0]),(50,[.int .i64 0,.int .i64 0]),(51,[.slice none 0 0]),(53,[.slice none 0 0,.slice none 0 0]),(60,[.int .i64 0,.int .i64 0]),(63,[.int .i64 0,.int .i64 0,.int .i64 0,.int .i64 0,.int .i64 0]),(65,[.slice none 0 0]),(67,[.slice none 0 0,.slice none 0 0,.int .i64 0,.int .i64 0,.int .i64 0,.int .i64 0]),(69,[.pointer none]),(70,[.int .i64 0]),(73,[.slice none 0 0,.slice none 0 0,.int .i64 0,.int .i64 0,.int .i64 0,.int .i64 0]),(95,[.int .i64 0,.int .i64 0,.int .i64 0,.int .i64 0,.int .i64 0]),(97,[.pointer none]),(100,[.slice none 0 0]),(102,[.slice none 0 0,.int .i64 0,.int .i64 0,.int .i64 0,.int .i64 0,.int .i64 0,.int .i64 0,.bool false,.slice none 0 0,.slice none 0 0,.slice none 0 0,.pointer none,.slice none 0 0]),(104,[.nilFunc]),(111,[.nilFunc,.nilFunc,.nilFunc,.nilFunc]),(121,[.int .i64 0,.int .i64 0,.int .i64 0,.int .i64 0,.int .i64 0,.int .i64 0]),(125,[.nilFunc]),(127,[.slice none 0 0]),(130,[.slice none 0 0,.int .i64 0,.int .i64 0,.int .i64 0,.pointer none]),(134,[.chan none]),(137,[.slice none 0 0,.slice none 0 0]),(139,[.nilFunc]),(140,[.nilFunc]),(143,[.nilFunc]),(144,[.slice none 0 0]),(146,[.slice none 0 0]),(148,[.slice none 0 0,.int .i64 0]),(176,[.nilFunc]),(178,[.int .u64 0]),(180,[.int .i64 0,.int .u64 0]),(182,[.int .i64 0,.int .u64 0,.int .i64 0,.int .u64 0]),(184,[.int .i64 0,.int .i64 0,.int .u64 0,.int .i64 0,.int .u64 0,.int .i64 0,.int .u64 0,.int .i64 0,.int .u64 0,.int .i64 0,.int .i64 0,.int .i64 0,.int .i64 0]),(186,[.pointer none]),(188,[.int .i64 0,.int .i64 0,.int .i64 0,.int .i64 0]),(194,[.nilFunc]),(201,[.nilFunc,.nilFunc,.nilFunc,.nilFunc,.nilFunc,.nilFunc]),(212,[.chan none]),(213,[.nilFunc]),(237,[.int .i64 0,.int .i64 0,.int .i64 0,.int .i64 0]),(254,[.slice none 0 0]),(262,[.nilFunc]),(263,[.nilFunc]),(288,[.int .u64 0]),(291,[.pointer none]),(293,[.int .i64 0,.int .i64 0,.int .i64 0]),(298,[.int .i64 0,.int .i64 0,.int .i64 0,.int .i64 0,.int .i64 0]),(300,[.map none]),(303,[.slice none 0 0]),(304,[.slice none 0 0]),(305,[.nilFunc]),(319,[.int .i64 0,.int .i64 0,.int .i64 0,.int .i64 0,.bool false,.bool false]),(321,[.int .i64 0,.int .i64 0,.bool false]),(323,[.int .i64 0,.int .i64 0,.int .i64 0,.int .i64 0,.int .i64 0,.int .i64 0,.bool false,.int .i64 0,.int .i64 0,.bool false]),(325,[.nilFunc]),(326,[.nilFunc,.nilFunc,.nilFunc,.nilFunc]),(327,[.int .u32 0]),(334,[.nilFunc]),(346,[.int .i64 0,.int .i64 0,.int .i64 0,.int .i64 0]),(350,[.int .u64 0,.int .u64 0])]
 pg:=[(44,[(0,0),(1,1),(2,2),(3,3),(4,4),(5,5),(6,6),(7,7),(8,8),(9,9)]),(50,[(0,0),(1,1)]),(53,[(0,0),(1,1)]),(60,[(0,0),(1,1)]),(63,[(0,0),(1,2),(2,4)]),(67,[(0,0),(1,1),(2,2),(3,3),(4,4),(5,5)]),(73,[(0,0),(1,1),(2,2),(3,3),(4,4),(5,5)]),(95,[(0,0),(1,2),(2,4)]),(102,[(0,0),(1,1),(2,11),(3,12)]),(130,[(0,0),(1,1),(2,2),(3,3),(4,4)]),(146,[(0,0)]),(148,[(0,0),(1,1)]),(180,[(0,0),(1,1)]),(182,[(0,0),(1,2)]),(184,[(0,0),(1,1),(2,5),(3,9),(4,11)]),(188,[(0,0),(1,2)]),(237,[(0,0),(1,2)]),(293,[(0,0),(1,2)]),(298,[(0,0),(1,4)]),(319,[(0,0),(1,2),(2,4),(3,5)]),(321,[(0,0),(1,1),(2,2)]),(323,[(0,0),(1,2),(2,4),(3,7)]),(346,[(0,0),(1,2)]),(350,[(0,0),(1,1)])]
 oC:=[(111,4,1),(121,6,1),(137,2,1),(201,6,1),(326,4,1)]
 jG:=[(44,[(0,1),(1,1),(2,1),(3,1),(4,1),(5,1),(6,1),(7,1),(8,1),(9,1)]),(50,[(0,1),(1,1)]),(53,[(0,1),(1,1)]),(60,[(0,1),(1,1)]),(63,[(0,2),(2,2),(4,1)]),(67,[(0,1),(1,1),(2,1),(3,1),(4,1),(5,1)]),(73,[(0,1),(1,1),(2,1),(3,1),(4,1),(5,1)]),(95,[(0,2),(2,2),(4,1)]),(102,[(0,1),(1,10),(11,1),(12,1)]),(111,[(0,1),(1,1),(2,1),(3,1)]),(121,[(0,1),(1,1),(2,1),(3,1),(4,1),(5,1)]),(130,[(0,1),(1,1),(2,1),(3,1),(4,1)]),(137,[(0,1),(1,1)]),(146,[(0,1)]),(148,[(0,1),(1,1)]),(180,[(0,1),(1,1)]),(182,[(0,2),(2,2)]),(184,[(0,1),(1,4),(5,4),(9,2),(11,2)]),(188,[(0,2),(2,2)]),(201,[(0,1),(1,1),(2,1),(3,1),(4,1),(5,1)]),(237,[(0,2),(2,2)]),(293,[(0,2),(2,1)]),(298,[(0,4),(4,1)]),(319,[(0,2),(2,2),(4,1),(5,1)]),(321,[(0,1),(1,1),(2,1)]),(323,[(0,2),(2,2),(4,3),(7,3)]),(326,[(0,1),(1,1),(2,1),(3,1)]),(346,[(0,2),(2,2)]),(350,[(0,1),(1,1)])]
theorem ya{α β:Type}{g h:α→β}:∀l:List α,l.map g=l.map h→mI (fun p=>g p=h p) l
 | [],_=>trivial
 | a::l,e=>by
  rw[hO,hO,List.cons.injEq] at e;exact⟨e.1,ya l e.2⟩
theorem NQ{α β γ:Type}{k:α→List γ}{g h:α→γ→β}:∀l:List α,(l.map fun p=>(k p).map (g p))=(l.map fun p=>(k p).map (h p))→mI (fun p=>mI (fun q=>g p q=h p q) (k p)) l
 | [],_=>trivial
 | a::l,e=>by
  rw[hO,hO,List.cons.injEq] at e;exact⟨ya _ e.1,NQ l e.2⟩
theorem alH:mI (fun p=>lD ah p.1=some p.2) tab.ty:=ya _ (by kernel_rfl)
theorem alI:mI (fun p=>zeroOf ah p.1=some p.2) tab.zero:=ya _ (by kernel_rfl)
theorem alE:mI (fun p=>D2 ah p.1=some p.2) tab.oC:=ya _ (by kernel_rfl)
theorem alG:mI (fun p=>Gw ah p.1=some p.2) tab.jG:=ya _ (by kernel_rfl)
theorem alF:mI (fun p=>mI (fun q=>wI ah p.1 q.1=some q.2) p.2) tab.pg:=NQ _ (by kernel_rfl)
instance:HO ah tab:=⟨alH,alI,alF,alE,alG⟩
end Go.Proofs.YtklpfooafbjnpaaGreat
namespace Go.Proofs.YtklpfooafbjnpaaGreat
open Go.RowKit
section
variable{P:Program}{s:aB}{ops:Array Oper}{K:aB→Prop}{rest:List Oper}{ty:Nat}{pos:String}{after:Array Edge}{guard:Option (Nat×Bool)}{d:Nat}
theorem YK{dl:Nat}{x:Operand}{k:IntKind}{a c:Int}(hw:want ops ⟨some d,.unOp .neg dl x,ty,pos,after,guard⟩ s=some true)(ab:s.look x=some (aQ (.int k a)))(ak:k.wrap (-a)=c)(hd:Nat.blt d s.n=true)(h:bm P ops K rest (s.put (some d) (aQ (.int k c)))):bm P ops K (⟨some d,.unOp .neg dl x,ty,pos,after,guard⟩::rest) s:=by
 refine NO hw ab (fun W => ?_) rfl hd h;rw[←ak,show -a=0-a by omega];cases k <;> rfl
theorem NN{dl dN:Nat}{x y:Operand}{k:IntKind}{a b:Int}(hw:want ops ⟨some d,.binOp .rem dl x y dN,ty,pos,after,guard⟩ s=some true)(ab:s.look x=some (aQ (.int k a)))(ai:s.look y=some (aQ (.int k b)))(aE:0≤a)(h1:0<b)(hd:Nat.blt d s.n=true)(h:bm P ops K rest (s.put (some d) (aQ (.int k (a % b))))):bm P ops K (⟨some d,.binOp .rem dl x y dN,ty,pos,after,guard⟩::rest) s:=by
 refine qS hw ab ai (fun W => ?_) rfl hd h;have aa:b≠0:=by omega
 have e:a.tmod b=a % b:=Int.tmod_eq_emod_of_nonneg aE;rw[←e];cases k <;> simp[binOp,Op.intDiv,aa] <;> rfl
end
abbrev kk(l1 l2 h1 h2:Int):ag := .w (.agg [.c (.int .i64 l1),.c (.int .i64 l2),.c (.int .i64 h1),.c (.int .i64 h2)])
def dE(a b c d:Int):Bool:=decide (a=c)&&decide (b=d)
theorem qY{a b c d:Int}:dE a b c d=true↔a=c∧b=d:=by unfold dE;rw[eg,cT,cT]
def wF(a b c d a' b4 c' d':Int):Bool:=dE a b a' b4&&dE c d c' d'
class Dr (P:Program) (t:TypeId):Prop where
 g:P.eqGuardType P.depth t=false
 h:∀(a b c d:Int) W,(Op.equalIn 10000 t (.agg #[.int .i64 a,.int .i64 b]) (.agg #[.int .i64 c,.int .i64 d])).run P W = .ok (dE a b c d) W
class M0 (P:Program) (t:TypeId):Prop where
 g:P.eqGuardType P.depth t=false
 h:∀(a b c d a' b4 c' d':Int) W,(Op.equalIn 10000 t (.agg #[.int .i64 a,.int .i64 b,.int .i64 c,.int .i64 d]) (.agg #[.int .i64 a',.int .i64 b4,.int .i64 c',.int .i64 d'])).run P W = .ok (wF a b c d a' b4 c' d') W
theorem EA{P:Program}{op:BinOp}{t:TypeId}{x y:Operand}{u v:Array Value}{W:World}(au:P.eqGuardType P.depth t=false):(eqGuard op t x y (.agg u) (.agg v)).run P W = .ok () W:=by
 unfold eqGuard;cases op <;> first|rfl|simp[Sem.run_bind,program,Sem.run,Result.andThen,au]
section
variable{P:Program}{s:aB}{ops:Array Oper}{K:aB→Prop}{rest:List Oper}{ty:Nat}{pos:String}{after:Array Edge}{guard:Option (Nat×Bool)}{d:Nat}
theorem Yp{t dN:Nat}{x y:Operand}{a b a' b4:Int} [E:Dr P t](hw:want ops ⟨some d,.binOp .eql t x y dN,ty,pos,after,guard⟩ s=some true)(ab:s.look x=some (bn a b))(ai:s.look y=some (bn a' b4))(hd:Nat.blt d s.n=true)(h:bm P ops K rest (s.put (some d) (bl (dE a b a' b4)))):bm P ops K (⟨some d,.binOp .eql t x y dN,ty,pos,after,guard⟩::rest) s :=
 wm hw ab ai rfl rfl (fun W=>EA E.g) (fun W=>by rw[run_eql_struct,E.h];rfl) rfl hd h
theorem YN{t dN:Nat}{x y:Operand}{a b a' b4:Int} [E:Dr P t](hw:want ops ⟨some d,.binOp .neq t x y dN,ty,pos,after,guard⟩ s=some true)(ab:s.look x=some (bn a b))(ai:s.look y=some (bn a' b4))(hd:Nat.blt d s.n=true)(h:bm P ops K rest (s.put (some d) (bl (!dE a b a' b4)))):bm P ops K (⟨some d,.binOp .neq t x y dN,ty,pos,after,guard⟩::rest) s :=
 wm hw ab ai rfl rfl (fun W=>EA E.g) (fun W=>by rw[run_neq_struct,E.h];rfl) rfl hd h
theorem Yo{t dN:Nat}{x y:Operand}{a b c e a' b4 c' e':Int} [E:M0 P t](hw:want ops ⟨some d,.binOp .eql t x y dN,ty,pos,after,guard⟩ s=some true)(ab:s.look x=some (kk a b c e))(ai:s.look y=some (kk a' b4 c' e'))(hd:Nat.blt d s.n=true)(h:bm P ops K rest (s.put (some d) (bl (wF a b c e a' b4 c' e')))):bm P ops K (⟨some d,.binOp .eql t x y dN,ty,pos,after,guard⟩::rest) s :=
 wm hw ab ai rfl rfl (fun W=>EA E.g) (fun W=>by rw[run_eql_struct,E.h];rfl) rfl hd h
end
theorem aaL(a b c d:Int)(W:World):(Op.equalIn 10000 50 (.agg #[.int .i64 a,.int .i64 b]) (.agg #[.int .i64 c,.int .i64 d])).run ah W = .ok (dE a b c d) W:=by
 unfold dE
 go_simp
 by_cases h1:a=c <;> by_cases h2:b=d <;> simp[h1,h2]
instance anK:Dr ah 50:=⟨by kernel_rfl,aaL⟩
theorem aaK(a b c d:Int)(W:World):(Op.equalIn 10000 60 (.agg #[.int .i64 a,.int .i64 b]) (.agg #[.int .i64 c,.int .i64 d])).run ah W = .ok (dE a b c d) W:=by
 unfold dE
 go_simp
 by_cases h1:a=c <;> by_cases h2:b=d <;> simp[h1,h2]
instance anL:Dr ah 60:=⟨by kernel_rfl,aaK⟩
def uV(n:Int):Bool:=decide (-536870912≤n)&&decide (n≤536870912)
theorem Pb{n:Int}:uV n=true ↔ -536870912≤n∧n≤536870912:=by unfold uV;rw[eg,cT,cT]
def eF(x y:Int):Bool:=uV x&&uV y
theorem T8{x y:Int}:eF x y=true↔(-536870912≤x∧x≤536870912) ∧ -536870912≤y∧y≤536870912:=by unfold eF;rw[eg,Pb,Pb]
theorem Tg{n:Int}{b:Bool}(aa:uV n=b):aO ah 307 [aL n] (bl b):=by
 have cs:(-536870912≤n∧n≤536870912∧b=true)∨(-536870912≤n∧¬n≤536870912∧b=false)∨(¬ -536870912≤n∧b=false):=by
  rw[←aa];unfold uV
  by_cases h1 : -536870912≤n <;> by_cases h2:n≤536870912 <;> simp[h1,h2]
 clear aa;rcases cs with ⟨h1,h2,rfl⟩|⟨h1,h2,rfl⟩|⟨h1,rfl⟩
 all_goals
  refine bo (f:=307) Tryz.func307 rfl rfl rfl rfl ?_;(repeat first|refine dc ?_|(with_reducible apply bR (c:=true));rfl;rfl;(exact b5 (by omega))|(with_reducible apply bR (c:=false));rfl;rfl;(exact cc (by omega)))
  ((refine bk rfl (aY rfl aM) ?_))
  first|exact ag.aU.refl _|exact ag.aU.of_eq (by rw[b5 h2];rfl)|exact ag.aU.of_eq (by rw[cc h2];rfl)
theorem tX{x y:Int}{b:Bool}(aa:eF x y=b):aO ah 277 [bn x y] (bl b):=by
 have a7:=Tg (n:=x) rfl;have bK:=Tg (n:=y) rfl;unfold eF at aa;cases q1:uV x <;> cases q2:uV y <;> rw[q1] at a7 <;> rw[q2] at bK <;> rw[q1,q2] at aa <;> subst aa <;> clear q1 q2
 all_goals
  refine bo (f:=277) Tryz.func277 rfl rfl rfl rfl ?_;(refine cK ?_)
  ((refine bk rfl (aY rfl aM) ?_))
  exact ag.aU.refl _
def cq(o1 o2 a1 a2 b1 b2:Int):Int:=(a1-o1)*(b2-o2)-(a2-o2)*(b1-o1)
theorem Lc{x y A B:Int}(h1 : -A≤x)(h2:x≤A)(ar : -B≤y)(aK:y≤B) : -(A*B)≤x*y∧x*y≤A*B:=by
 have ab:x.natAbs≤A.natAbs:=by omega
 have ai:y.natAbs≤B.natAbs:=by omega
 have h:=Nat.mul_le_mul ab ai;rw[←Int.natAbs_mul,←Int.natAbs_mul] at h;have ct:0≤A*B:=hP (by omega) (by omega);omega
theorem Sj{x y:Int}(h1 : -1073741824≤x)(h2:x≤1073741824)(ar : -1073741824≤y)(aK:y≤1073741824) : -1152921504606846976≤x*y∧x*y≤1152921504606846976:=by
 have:=Lc h1 h2 ar aK;omega
theorem S7{o1 o2 a1 a2 b1 b2:Int}(aD:eF o1 o2=true)(aX:eF a1 a2=true)(aa:eF b1 b2=true):aO ah 242 [bn o1 o2,bn a1 a2,bn b1 b2] (aL (cq o1 o2 a1 a2 b1 b2)):=by
 have bd:=tX aD;have dR:=tX aX;have lG:=tX aa;rw[T8] at aD aX aa;have m1:=Sj (x:=a1-o1) (y:=b2-o2) (by omega) (by omega) (by omega) (by omega);have m2:=Sj (x:=a2-o2) (y:=b1-o1) (by omega) (by omega) (by omega) (by omega);refine bo (f:=242) Tryz.func242 rfl rfl rfl rfl ?_;(refine cK ?_)
 ((refine bk rfl (aY rfl aM) ?_))
 exact ag.aU.refl _
theorem ahC{o1 o2 a1 a2 b1 b2:Int}(h:(eF o1 o2&&eF a1 a2&&eF b1 b2)=false):aO ah 242 [bn o1 o2,bn a1 a2,bn b1 b2] (aL 0):=by
 have bd:=tX (x:=o1) (y:=o2) rfl;have dR:=tX (x:=a1) (y:=a2) rfl;have lG:=tX (x:=b1) (y:=b2) rfl
 have cs:eF o1 o2=false∨(eF o1 o2=true∧eF a1 a2=false)∨(eF o1 o2=true∧eF a1 a2=true∧eF b1 b2=false):=by
  generalize eF o1 o2=p at *;generalize eF a1 a2=q at *;generalize eF b1 b2=r at *;cases p <;> cases q <;> cases r <;> simp_all
 clear h;rcases cs with h1|⟨h1,h2⟩|⟨h1,h2,ar⟩ <;> simp only[*] at bd dR lG
 all_goals
  refine bo (f:=242) Tryz.func242 rfl rfl rfl rfl ?_;(refine cK ?_)
  ((refine bk rfl (aY rfl aM) ?_))
  exact ag.aU.refl _
def tj(o1 o2 a1 a2 b1 b2:Int):Int:=if (eF o1 o2&&eF a1 a2&&eF b1 b2)=true then cq o1 o2 a1 a2 b1 b2 else 0
theorem ahB{o1 o2 a1 a2 b1 b2:Int}:aO ah 242 [bn o1 o2,bn a1 a2,bn b1 b2] (aL (tj o1 o2 a1 a2 b1 b2)):=by
 unfold tj
 by_cases h:(eF o1 o2&&eF a1 a2&&eF b1 b2)=true
 ·rw[if_pos h];simp only[eg] at h;exact S7 h.1.1 h.1.2 h.2
 ·rw[if_neg h];exact ahC (by simpa using h)
def sU(n:Int):Int:=if n<0 then -1 else if 0<n then 1 else 0
theorem ah2{o1 o2 a1 a2 b1 b2:Int}:aO ah 310 [bn o1 o2,bn a1 a2,bn b1 b2] (aL (sU (tj o1 o2 a1 a2 b1 b2))):=by
 have a7:=ahB (o1:=o1) (o2:=o2) (a1:=a1) (a2:=a2) (b1:=b1) (b2:=b2);generalize tj o1 o2 a1 a2 b1 b2=c at *;have cs:(c<0∧sU c = -1)∨(¬c<0∧0<c∧sU c=1)∨(¬c<0∧¬ 0<c∧sU c=0):=by unfold sU;repeat' split <;> omega
 rcases cs with ⟨h1,h⟩|⟨h1,h2,h⟩|⟨h1,h2,h⟩ <;> rw[h] <;> clear h
 all_goals
  refine bo (f:=310) Tryz.func310 rfl rfl rfl rfl ?_;(refine cK ?_)
  ((refine bk rfl (aY rfl aM) ?_))
  exact ag.aU.refl _
abbrev hK(a b:Int):Int:=if b<a then b else a
abbrev hJ(a b:Int):Int:=if b>a then b else a
theorem ahy{a1 a2 b1 b2:Int}:aO ah 309 [bn a1 a2,bn b1 b2] (kk (hK a1 b1) (hK a2 b2) (hJ a1 b1) (hJ a2 b2)):=by
 refine bo (f:=309) Tryz.func309 rfl rfl rfl rfl ?_;(refine eK ?_)
 ((refine bk rfl (c6 rfl rfl rfl aM) ?_))
 exact ag.aU.refl _
def cX(l1 l2 h1 h2 p1 p2:Int):Bool:=decide (l1≤p1)&&decide (p1≤h1)&&decide (l2≤p2)&&decide (p2≤h2)
theorem abV{l1 l2 h1 h2 p1 p2:Int}:cX l1 l2 h1 h2 p1 p2=true↔l1≤p1∧p1≤h1∧l2≤p2∧p2≤h2:=by unfold cX;simp only[eg,cT,and_assoc]
theorem ahK{l1 l2 h1 h2 p1 p2:Int}{b:Bool}(aa:cX l1 l2 h1 h2 p1 p2=b):aO ah 308 [kk l1 l2 h1 h2,bn p1 p2] (bl b):=by
 have cs:(l1≤p1∧p1≤h1∧l2≤p2∧p2≤h2∧b=true)∨(l1≤p1∧p1≤h1∧l2≤p2∧¬p2≤h2∧b=false)∨(l1≤p1∧p1≤h1∧¬l2≤p2∧b=false)∨(l1≤p1∧¬p1≤h1∧b=false)∨(¬l1≤p1∧b=false):=by
  rw[←aa];unfold cX
  by_cases q1:l1≤p1 <;> by_cases q2:p1≤h1 <;> by_cases q3:l2≤p2 <;> by_cases q4:p2≤h2 <;> simp[q1,q2,q3,q4]
 clear aa;rcases cs with ⟨q1,q2,q3,q4,rfl⟩|⟨q1,q2,q3,q4,rfl⟩|⟨q1,q2,q3,rfl⟩|⟨q1,q2,rfl⟩|⟨q1,rfl⟩
 all_goals
  refine bo (f:=308) Tryz.func308 rfl rfl rfl rfl ?_;(repeat first|refine dc ?_|(with_reducible apply bR (c:=true));rfl;rfl;(exact b5 (by omega))|(with_reducible apply bR (c:=false));rfl;rfl;(exact cc (by omega)))
  ((refine bk rfl (aY rfl aM) ?_))
  first|exact ag.aU.refl _|exact ag.aU.of_eq (by rw[b5 q4];rfl)|exact ag.aU.of_eq (by rw[cc q4];rfl)
def Gi(p1 p2 a1 a2 b1 b2:Int):Bool:=eF p1 p2&&eF a1 a2&&eF b1 b2&&cX (hK a1 b1) (hK a2 b2) (hJ a1 b1) (hJ a2 b2) p1 p2&&decide (cq a1 a2 b1 b2 p1 p2=0)
theorem akQ{n:Int}:sU n=0↔n=0:=by unfold sU;repeat' split <;> omega
theorem ahW{p1 p2 a1 a2 b1 b2:Int}{b:Bool}(aa:Gi p1 p2 a1 a2 b1 b2=b):aO ah 278 [bn p1 p2,bn a1 a2,bn b1 b2] (bl b):=by
 have bd:=tX (x:=p1) (y:=p2) rfl;have dR:=tX (x:=a1) (y:=a2) rfl;have lG:=tX (x:=b1) (y:=b2) rfl;have H1:=ahy (a1:=a1) (a2:=a2) (b1:=b1) (b2:=b2);have dI:=ahK (l1:=hK a1 b1) (l2:=hK a2 b2) (h1:=hJ a1 b1) (h2:=hJ a2 b2) (p1:=p1) (p2:=p2) rfl;have qQ:=ah2 (o1:=a1) (o2:=a2) (a1:=b1) (a2:=b2) (b1:=p1) (b2:=p2);unfold Gi at aa
 have cs:(eF p1 p2=false∧b=false)∨(eF p1 p2=true∧eF a1 a2=false∧b=false)∨(eF p1 p2=true∧eF a1 a2=true∧eF b1 b2=false∧b=false)
   ∨ (eF p1 p2=true∧eF a1 a2=true∧eF b1 b2=true∧cX (hK a1 b1) (hK a2 b2) (hJ a1 b1) (hJ a2 b2) p1 p2=false∧b=false)
   ∨ (eF p1 p2=true∧eF a1 a2=true∧eF b1 b2=true∧cX (hK a1 b1) (hK a2 b2) (hJ a1 b1) (hJ a2 b2) p1 p2=true∧b=decide (sU (tj a1 a2 b1 b2 p1 p2)=0)):=by
  have e:decide (sU (tj a1 a2 b1 b2 p1 p2)=0)=decide (tj a1 a2 b1 b2 p1 p2=0):=by rw[o3,cT,cT,akQ]
  rw[e];unfold tj;generalize cq a1 a2 b1 b2 p1 p2=c at *;generalize eF p1 p2=dd at *;generalize eF a1 a2=dj at *;generalize eF b1 b2=k9 at *;generalize cX _ _ _ _ p1 p2=nU at *;cases dd <;> cases dj <;> cases k9 <;> cases nU <;> simp_all
 clear aa;generalize cX _ _ _ _ p1 p2=nU at *;generalize hK a1 b1=i1 at *;generalize hK a2 b2=i2 at *;generalize hJ a1 b1=i3 at *;generalize hJ a2 b2=i4 at *;generalize sU (tj a1 a2 b1 b2 p1 p2)=t at *;rcases cs with ⟨h1,rfl⟩|⟨h1,h2,rfl⟩|⟨h1,h2,ar,rfl⟩|⟨h1,h2,ar,rfl,rfl⟩|⟨h1,h2,ar,rfl,rfl⟩ <;> simp only[*] at bd dR lG
 all_goals
  refine bo (f:=278) Tryz.func278 rfl rfl rfl rfl ?_;(refine cK ?_)
  ((refine bk rfl (aY rfl aM) ?_))
  exact ag.aU.refl _
end Go.Proofs.YtklpfooafbjnpaaGreat
namespace Go.Proofs.YtklpfooafbjnpaaGreat
def c5(x y:Int):Bool:=decide (x≤134217728)&&decide (y≤134217728)&&decide (-134217728≤x)&&decide (-134217728≤y)
theorem ui{x y:Int}:c5 x y=true↔(-134217728≤x∧x≤134217728) ∧ -134217728≤y∧y≤134217728:=by
  unfold c5;simp only[eg,cT];omega
def dM(a1 a2 b1 b2:Int):Prop:=a1<b1∨(a1=b1∧a2≤b2)
instance (a1 a2 b1 b2:Int):Decidable (dM a1 a2 b1 b2):=by unfold dM;exact inferInstance
theorem dM.LV{a1 a2:Int}:dM a1 a2 a1 a2 := .inr ⟨rfl,mx _⟩
theorem dM.trans{a1 a2 b1 b2 c1 c2:Int}(h:dM a1 a2 b1 b2)(k:dM b1 b2 c1 c2):dM a1 a2 c1 c2:=by unfold dM at *;omega
theorem dM.total(a1 a2 b1 b2:Int):dM a1 a2 b1 b2∨dM b1 b2 a1 a2:=by unfold dM;omega
theorem dM.D1{a1 a2 b1 b2:Int}(h:dM a1 a2 b1 b2)(k:dM b1 b2 a1 a2):a1=b1∧a2=b2:=by unfold dM at *;omega
def tL(p1 p2 a1 a2 b1 b2:Int):Prop:=hK a1 b1≤p1∧p1≤hJ a1 b1∧hK a2 b2≤p2∧p2≤hJ a2 b2
theorem Ob{s1 s2 t1 t2 p1 p2:Int}(fH:dM s1 s2 t1 t2)(ak:cq s1 s2 t1 t2 p1 p2=0):tL p1 p2 s1 s2 t1 t2↔dM s1 s2 p1 p2∧dM p1 p2 t1 t2:=by
  unfold cq at ak;have ny:(t1-s1)*(p2-s2)=(t2-s2)*(p1-s1):=by omega
  unfold tL hK hJ dM at *
  by_cases h1:s1=t1
  · subst h1
    have e:(t2-s2)*(p1-s1)=0:=by rw[←ny];simp
    rcases ug.1 e with e|e
    · constructor
      · intro h;split at h <;> (try split at h) <;> (try split at h) <;> (try split at h) <;> omega
      · intro h;split <;> (try split) <;> (try split) <;> (try split) <;> omega
    · constructor
      · intro h;split at h <;> (try split at h) <;> (try split at h) <;> (try split at h) <;> omega
      · intro h;split <;> (try split) <;> (try split) <;> (try split) <;> omega
  · have h2:s1<t1:=by omega
    have hd:0<t1-s1:=by omega
    rw[if_neg (show ¬t1<s1 by omega),if_pos (show t1>s1 by omega)]
   
    have key:s1≤p1→p1≤t1→(if t2<s2 then t2 else s2)≤p2∧p2≤(if t2>s2 then t2 else s2):=by
      intro bD cm
      by_cases g:t2<s2
      · rw[if_pos g,if_neg (by omega)]
        have a1:(t2-s2)*(t1-s1)≤(t2-s2)*(p1-s1):=Int.mul_le_mul_of_nonpos_left (by omega) (by omega);have a2:(t2-s2)*(p1-s1)≤0:=Int.mul_nonpos_of_nonpos_of_nonneg (by omega) (by omega);rw[←ny] at a1 a2;rw[k3 (t2-s2)] at a1;have b1:=Int.le_of_mul_le_mul_left a1 hd
        have b2:p2-s2≤0:=by
          have:(t1-s1)*(p2-s2)≤(t1-s1)*0:=by omega
          exact Int.le_of_mul_le_mul_left this hd
        omega
      · rw[if_neg g]
        have a1:(t2-s2)*(p1-s1)≤(t2-s2)*(t1-s1):=sM (by omega) (by omega);have a2:0≤(t2-s2)*(p1-s1):=hP (by omega) (by omega);rw[←ny] at a1 a2;rw[k3 (t2-s2)] at a1;have b1:=Int.le_of_mul_le_mul_left a1 hd
        have b2:0≤p2-s2:=by
          have:(t1-s1)*0≤(t1-s1)*(p2-s2):=by omega
          exact Int.le_of_mul_le_mul_left this hd
        split <;> omega
    constructor
    · rintro⟨bD,cm,jB,lv⟩
      constructor
      · by_cases g:s1<p1
        · exact .inl g
        · right
          have:p1=s1:=by omega
          subst this;have:(t1-p1)*(p2-s2)=0:=by rw[ny];simp
          rcases ug.1 this with e|e <;> omega
      · by_cases g:p1<t1
        · exact .inl g
        · right
          have:p1=t1:=by omega
          subst this;rw[k3 (t2-s2)] at ny;have:=Int.eq_of_mul_eq_mul_left (show p1-s1≠0 by omega) ny;omega
    · rintro⟨bD,cm⟩
      have KF:s1≤p1:=by omega
      have KG:p1≤t1:=by omega
      exact⟨KF,KG,(key KF KG).1,(key KF KG).2⟩
def dJ(p1 p2 s1 s2 t1 t2:Int):Prop:=cq s1 s2 t1 t2 p1 p2=0∧tL p1 p2 s1 s2 t1 t2
theorem xl{s1 s2 t1 t2 p1 p2:Int}(fH:dM s1 s2 t1 t2):dJ p1 p2 s1 s2 t1 t2↔cq s1 s2 t1 t2 p1 p2=0∧dM s1 s2 p1 p2∧dM p1 p2 t1 t2:=by
  unfold dJ
  constructor
  · rintro⟨h,k⟩;exact⟨h,(Ob fH h).1 k⟩
  · rintro⟨h,k⟩;exact⟨h,(Ob fH h).2 k⟩
theorem Ix(a1 a2 b1 b2:Int):cq a1 a2 b1 b2 a1 a2=0:=by unfold cq;grind
theorem OC(a1 a2 b1 b2:Int):cq a1 a2 b1 b2 b1 b2=0:=by unfold cq;grind
theorem vr{s1 s2 t1 t2:Int}(fH:dM s1 s2 t1 t2):dJ s1 s2 s1 s2 t1 t2:=(xl fH).2 ⟨Ix ..,.LV,fH⟩
theorem vq{s1 s2 t1 t2:Int}(fH:dM s1 s2 t1 t2):dJ t1 t2 s1 s2 t1 t2:=(xl fH).2 ⟨OC ..,fH,.LV⟩
theorem Ct{p1 p2 s1 s2:Int}(h:dJ p1 p2 s1 s2 s1 s2):p1=s1∧p2=s2:=by
  obtain⟨_,h1,h2⟩:=(xl dM.LV).1 h;have:=dM.D1 h1 h2;omega
def qp(s1 s2 bV b8 t1 t2 t3 t4:Int):Int:=(bV-s1)*(t4-t2)-(b8-s2)*(t3-t1)
theorem vu{s1 s2 bV b8 t1 t2 t3 t4 p1 p2 cp dQ:Int}(hs:dM s1 s2 bV b8)(aC:dM t1 t2 t3 t4)(hw:qp s1 s2 bV b8 t1 t2 t3 t4=0)
    (ps:dJ p1 p2 s1 s2 bV b8) (qs:dJ p1 p2 t1 t2 t3 t4) (rF:dJ cp dQ s1 s2 bV b8) (hy:dM t1 t2 cp dQ) (ajx:dM cp dQ t3 t4):dJ cp dQ t1 t2 t3 t4:=by
  by_cases hd:s1=bV∧s2=b8
  · obtain⟨rfl,rfl⟩:=hd
    obtain⟨rfl,rfl⟩:=Ct ps;obtain⟨rfl,rfl⟩:=Ct rF;exact qs
  · refine(xl aC).2 ⟨?_,hy,ajx⟩
    have a:=ps.1;have b:=qs.1;have c:=rF.1;unfold cq qp at *;have d1:(bV-s1)*((t3-t1)*(dQ-t2)-(t4-t2)*(cp-t1))=0:=by grind
    have d2:(b8-s2)*((t3-t1)*(dQ-t2)-(t4-t2)*(cp-t1))=0:=by grind
    rcases ug.1 d1 with e|e
    · rcases ug.1 d2 with f|f
      · omega
      · exact f
    · exact e
theorem Oc{x y A B D:Int}(e4:0<D)(e:D=A-B):(hK x y*D≤y*A-x*B∧y*A-x*B≤hJ x y*D)↔(x=y∨(B≤0∧0≤A)):=by
  subst e;unfold hK hJ
  by_cases h:x=y
  · subst h
    have:x*(A-B)=x*A-x*B:=Int.mul_sub ..;simp[this]
  · have pos:∀ {u v:Int},0<u→(0≤u*v↔0≤v):=by
      intro u v hu
      constructor
      · intro k
        have k':u*0≤u*v:=by omega
        exact Int.le_of_mul_le_mul_left k' hu
      · intro k;exact hP (by omega) k
    by_cases g:x<y
    · rw[if_neg (by omega),if_pos (show y>x from g)]
      have hu:0<y-x:=by omega
      have aH:y*A-x*B-x*(A-B)=(y-x)*A:=by grind
      have aN:y*(A-B)-(y*A-x*B)=(y-x)*(-B):=by grind
      have p1:=pos (v:=A) hu;have p2:=pos (v := -B) hu;omega
    · rw[if_pos (by omega),if_neg (by omega)]
      have hu:0<x-y:=by omega
      have aH:x*(A-B)-(y*A-x*B)=(x-y)*A:=by grind
      have aN:y*A-x*B-y*(A-B)=(x-y)*(-B):=by grind
      have p1:=pos (v:=A) hu;have p2:=pos (v := -B) hu;omega
def mb(n d a b:Int):Prop:=hK a b*d≤n∧n≤hJ a b*d
theorem Ee{x y u v A B D:Int}(e4:0<D)(e:D=A-B)(cA:¬(x=y∧u=v)):(mb (y*A-x*B) D x y∧mb (v*A-u*B) D u v)↔(B≤0∧0≤A):=by
  unfold mb;rw[Oc e4 e,Oc e4 e];omega
theorem tg{n d a b:Int}:mb n d a b↔mb n d b a:=by
  unfold mb hK hJ
  by_cases h:a=b
  · subst h;rfl
  · by_cases g:a<b
    · rw[if_neg (by omega),if_pos (show b>a from g),if_pos g,if_neg (by omega)]
    · rw[if_pos (show b<a by omega),if_neg (by omega),if_neg g,if_pos (by omega)]
structure fY where
  k:Int
  n:Int
  d:Int
  m:Int
  e:Int
  p1:Int
  p2:Int
  q1:Int
  q2:Int
def iR:fY:=⟨0,0,0,0,0,0,0,0,0⟩
def kd(n d m e:Int):fY:=⟨1,n,d,m,e,0,0,0,0⟩
def uH(p1 p2 q1 q2:Int):fY:=⟨2,0,0,0,0,p1,p2,q1,q2⟩
def kE(n d:Int):Int:=if d<0 then -n else n
def jE(d:Int):Int:=if d<0 then -d else d
theorem sA{d:Int}(h:d≠0)(n:Int):kE (-n) (-d)=kE n d:=by unfold kE;split <;> split <;> omega
theorem Cq(d:Int):jE (-d)=jE d:=by unfold jE;split <;> split <;> omega
theorem SC{d:Int}(h:d≠0):0<jE d:=by unfold jE;split <;> omega
def k0(a1 a2 b1 b2 c1 c2 d1 d2:Int):Int:=((b2-a2)*a1+(a1-b1)*a2)*(c1-d1)-(a1-b1)*((d2-c2)*c1+(c1-d1)*c2)
def k1(a1 a2 b1 b2 c1 c2 d1 d2:Int):Int:=(b2-a2)*((d2-c2)*c1+(c1-d1)*c2)-((b2-a2)*a1+(a1-b1)*a2)*(d2-c2)
def du(a1 a2 b1 b2 c1 c2 d1 d2:Int):Int:=(b2-a2)*(c1-d1)-(a1-b1)*(d2-c2)
theorem V0(a1 a2 b1 b2 c1 c2 d1 d2:Int):du a1 a2 b1 b2 c1 c2 d1 d2=qp a1 a2 b1 b2 c1 c2 d1 d2:=by unfold du qp;grind
section
variable(a1 a2 b1 b2 c1 c2 d1 d2:Int)
theorem Hi:du b1 b2 a1 a2 c1 c2 d1 d2 = - du a1 a2 b1 b2 c1 c2 d1 d2:=by unfold du;grind
theorem Dc:du a1 a2 b1 b2 d1 d2 c1 c2 = - du a1 a2 b1 b2 c1 c2 d1 d2:=by unfold du;grind
theorem Hj:du c1 c2 d1 d2 a1 a2 b1 b2 = - du a1 a2 b1 b2 c1 c2 d1 d2:=by unfold du;grind
theorem agM:k0 b1 b2 a1 a2 c1 c2 d1 d2 = - k0 a1 a2 b1 b2 c1 c2 d1 d2:=by unfold k0;grind
theorem agN:k0 a1 a2 b1 b2 d1 d2 c1 c2 = - k0 a1 a2 b1 b2 c1 c2 d1 d2:=by unfold k0;grind
theorem Sn:k0 c1 c2 d1 d2 a1 a2 b1 b2 = - k0 a1 a2 b1 b2 c1 c2 d1 d2:=by unfold k0;grind
theorem agO:k1 b1 b2 a1 a2 c1 c2 d1 d2 = - k1 a1 a2 b1 b2 c1 c2 d1 d2:=by unfold k1;grind
theorem agP:k1 a1 a2 b1 b2 d1 d2 c1 c2 = - k1 a1 a2 b1 b2 c1 c2 d1 d2:=by unfold k1;grind
theorem So:k1 c1 c2 d1 d2 a1 a2 b1 b2 = - k1 a1 a2 b1 b2 c1 c2 d1 d2:=by unfold k1;grind
theorem Lf:c1*cq a1 a2 b1 b2 d1 d2-d1*cq a1 a2 b1 b2 c1 c2=k0 a1 a2 b1 b2 c1 c2 d1 d2:=by unfold k0 cq;grind
theorem Lg:c2*cq a1 a2 b1 b2 d1 d2-d2*cq a1 a2 b1 b2 c1 c2=k1 a1 a2 b1 b2 c1 c2 d1 d2:=by unfold k1 cq;grind
theorem MJ:cq a1 a2 b1 b2 d1 d2-cq a1 a2 b1 b2 c1 c2=du a1 a2 b1 b2 c1 c2 d1 d2:=by unfold du cq;grind
end
def four(a1 a2 b1 b2 c1 c2 d1 d2 x y d:Int):Prop:=mb x d a1 b1∧mb y d a2 b2∧mb x d c1 d1∧mb y d c2 d2
instance (n d a b:Int):Decidable (mb n d a b):=by unfold mb;exact inferInstance
instance (a1 a2 b1 b2 c1 c2 d1 d2 x y d:Int):Decidable (four a1 a2 b1 b2 c1 c2 d1 d2 x y d):=by unfold four;exact inferInstance
theorem B3{α:Type}{p q:Prop} [Decidable p] [Decidable q]{a b:α}(h:p↔q):(if p then a else b)=if q then a else b:=by
  by_cases k:p
  · rw[if_pos k,if_pos (h.1 k)]
  · rw[if_neg k,if_neg fun g=>k (h.2 g)]
def vm(a1 a2 b1 b2 c1 c2 d1 d2 x y d:Int):fY:=if four a1 a2 b1 b2 c1 c2 d1 d2 x y d then kd x d y d else iR
def oq(a1 a2 b1 b2 c1 c2 d1 d2:Int):fY :=
  vm a1 a2 b1 b2 c1 c2 d1 d2 (kE (k0 a1 a2 b1 b2 c1 c2 d1 d2) (du a1 a2 b1 b2 c1 c2 d1 d2)) (kE (k1 a1 a2 b1 b2 c1 c2 d1 d2) (du a1 a2 b1 b2 c1 c2 d1 d2)) (jE (du a1 a2 b1 b2 c1 c2 d1 d2))
theorem agh{a1 a2 b1 b2 c1 c2 d1 d2:Int}(h:du a1 a2 b1 b2 c1 c2 d1 d2≠0):oq b1 b2 a1 a2 c1 c2 d1 d2=oq a1 a2 b1 b2 c1 c2 d1 d2:=by
  unfold oq;rw[Hi,agM,agO,sA h,sA h,Cq];unfold vm four;exact B3 (by rw[tg (a:=b1),tg (a:=b2)])
theorem agi{a1 a2 b1 b2 c1 c2 d1 d2:Int}(h:du a1 a2 b1 b2 c1 c2 d1 d2≠0):oq a1 a2 b1 b2 d1 d2 c1 c2=oq a1 a2 b1 b2 c1 c2 d1 d2:=by
  unfold oq;rw[Dc,agN,agP,sA h,sA h,Cq];unfold vm four;exact B3 (by rw[tg (a:=d1),tg (a:=d2)])
theorem agj{a1 a2 b1 b2 c1 c2 d1 d2:Int}(h:du a1 a2 b1 b2 c1 c2 d1 d2≠0):oq c1 c2 d1 d2 a1 a2 b1 b2=oq a1 a2 b1 b2 c1 c2 d1 d2:=by
  unfold oq;rw[Hj,Sn,So,sA h,sA h,Cq];unfold vm four;refine B3 ?_
  constructor
  · rintro⟨h1,h2,ar,aK⟩;exact⟨ar,aK,h1,h2⟩
  · rintro⟨h1,h2,ar,aK⟩;exact⟨ar,aK,h1,h2⟩
def same(m n:Int):Prop:=(0<m∧0<n)∨(m<0∧n<0)
instance (m n:Int):Decidable (same m n):=by unfold same;exact inferInstance
theorem VZ{a1 a2 b1 b2 c1 c2 d1 d2:Int}(h:du a1 a2 b1 b2 c1 c2 d1 d2≠0):¬(a1=b1∧a2=b2)∧¬(c1=d1∧c2=d2):=by
  refine⟨?_,?_⟩
  · rintro⟨rfl,rfl⟩;apply h;unfold du;simp
  · rintro⟨rfl,rfl⟩;apply h;unfold du;simp
theorem Vk{a1 a2 b1 b2 c1 c2 d1 d2:Int}(h:du a1 a2 b1 b2 c1 c2 d1 d2≠0) :
    (mb (kE (k0 a1 a2 b1 b2 c1 c2 d1 d2) (du a1 a2 b1 b2 c1 c2 d1 d2)) (jE (du a1 a2 b1 b2 c1 c2 d1 d2)) c1 d1∧mb (kE (k1 a1 a2 b1 b2 c1 c2 d1 d2) (du a1 a2 b1 b2 c1 c2 d1 d2)) (jE (du a1 a2 b1 b2 c1 c2 d1 d2)) c2 d2)↔¬same (cq a1 a2 b1 b2 c1 c2) (cq a1 a2 b1 b2 d1 d2):=by
  have cA:=(VZ h).2;have aH:=Lf a1 a2 b1 b2 c1 c2 d1 d2;have aN:=Lg a1 a2 b1 b2 c1 c2 d1 d2;have b6:=MJ a1 a2 b1 b2 c1 c2 d1 d2;generalize k0 a1 a2 b1 b2 c1 c2 d1 d2=X at *;generalize k1 a1 a2 b1 b2 c1 c2 d1 d2=Y at *;generalize du a1 a2 b1 b2 c1 c2 d1 d2=w at *;generalize cq a1 a2 b1 b2 c1 c2=C at *;generalize cq a1 a2 b1 b2 d1 d2=D at *;unfold kE jE same
  by_cases g:w<0
  · rw[if_pos g,if_pos g,if_pos g,tg (a:=c1),tg (a:=c2)]
    have aZ:=Ee (x:=d1) (y:=c1) (u:=d2) (v:=c2) (A := -D) (B := -C) (D := -w) (by omega) (by omega) (by omega);have f1:c1 * -D-d1 * -C = -X:=by rw[←aH];simp only[Int.mul_neg];omega
    have f2:c2 * -D-d2 * -C = -Y:=by rw[←aN];simp only[Int.mul_neg];omega
    rw[f1,f2] at aZ;rw[aZ];omega
  · rw[if_neg g,if_neg g,if_neg g,tg (a:=c1),tg (a:=c2)]
    have aZ:=Ee (x:=d1) (y:=c1) (u:=d2) (v:=c2) (A:=D) (B:=C) (D:=w) (by omega) (by omega) (by omega);rw[aH,aN] at aZ;rw[aZ];omega
theorem akZ{a1 a2 b1 b2 c1 c2 d1 d2:Int}(h:du a1 a2 b1 b2 c1 c2 d1 d2≠0) :
    (mb (kE (k0 a1 a2 b1 b2 c1 c2 d1 d2) (du a1 a2 b1 b2 c1 c2 d1 d2)) (jE (du a1 a2 b1 b2 c1 c2 d1 d2)) a1 b1∧mb (kE (k1 a1 a2 b1 b2 c1 c2 d1 d2) (du a1 a2 b1 b2 c1 c2 d1 d2)) (jE (du a1 a2 b1 b2 c1 c2 d1 d2)) a2 b2)↔¬same (cq c1 c2 d1 d2 a1 a2) (cq c1 c2 d1 d2 b1 b2):=by
  have aJ:du c1 c2 d1 d2 a1 a2 b1 b2≠0:=by rw[Hj];omega
  have:=Vk aJ;rw[Sn,So,Hj,sA h,sA h,Cq] at this;exact this
theorem aa0{a1 a2 b1 b2 c1 c2 d1 d2:Int}(h:du a1 a2 b1 b2 c1 c2 d1 d2≠0) :
    four a1 a2 b1 b2 c1 c2 d1 d2 (kE (k0 a1 a2 b1 b2 c1 c2 d1 d2) (du a1 a2 b1 b2 c1 c2 d1 d2)) (kE (k1 a1 a2 b1 b2 c1 c2 d1 d2) (du a1 a2 b1 b2 c1 c2 d1 d2)) (jE (du a1 a2 b1 b2 c1 c2 d1 d2))↔¬(same (cq a1 a2 b1 b2 c1 c2) (cq a1 a2 b1 b2 d1 d2)∨same (cq c1 c2 d1 d2 a1 a2) (cq c1 c2 d1 d2 b1 b2)):=by
  unfold four;have p:=Vk h;have q:=akZ h
  constructor
  · rintro⟨h1,h2,ar,aK⟩ (g|g)
    · exact p.1 ⟨ar,aK⟩ g
    · exact q.1 ⟨h1,h2⟩ g
  · intro g
    obtain⟨ar,aK⟩:=p.2 fun k=>g (.inl k);obtain⟨h1,h2⟩:=q.2 fun k=>g (.inr k);exact⟨h1,h2,ar,aK⟩
def eZ(a1 a2 b1 b2:Int):Int:=if dM a1 a2 b1 b2 then a1 else b1
def eH(a1 a2 b1 b2:Int):Int:=if dM a1 a2 b1 b2 then a2 else b2
def en(a1 a2 b1 b2:Int):Int:=if dM a1 a2 b1 b2 then b1 else a1
def eh(a1 a2 b1 b2:Int):Int:=if dM a1 a2 b1 b2 then b2 else a2
theorem oP(a1 a2 b1 b2:Int):(eZ a1 a2 b1 b2=a1∧eH a1 a2 b1 b2=a2∧en a1 a2 b1 b2=b1∧eh a1 a2 b1 b2=b2∧dM a1 a2 b1 b2)∨(eZ a1 a2 b1 b2=b1∧eH a1 a2 b1 b2=b2∧en a1 a2 b1 b2=a1∧eh a1 a2 b1 b2=a2∧dM b1 b2 a1 a2):=by
  unfold eZ eH en eh
  by_cases h:dM a1 a2 b1 b2
  · simp[h]
  · simp[h,(dM.total a1 a2 b1 b2).resolve_left h]
theorem yV(a1 a2 b1 b2:Int):dM (eZ a1 a2 b1 b2) (eH a1 a2 b1 b2) (en a1 a2 b1 b2) (eh a1 a2 b1 b2):=by
  rcases oP a1 a2 b1 b2 with ⟨h1,h2,ar,aK,h⟩|⟨h1,h2,ar,aK,h⟩ <;> rw[h1,h2,ar,aK] <;> exact h
theorem RN(a1 a2 b1 b2:Int):eZ b1 b2 a1 a2=eZ a1 a2 b1 b2∧eH b1 b2 a1 a2=eH a1 a2 b1 b2∧en b1 b2 a1 a2=en a1 a2 b1 b2∧eh b1 b2 a1 a2=eh a1 a2 b1 b2:=by
  rcases oP a1 a2 b1 b2 with ⟨h1,h2,ar,aK,h⟩|⟨h1,h2,ar,aK,h⟩ <;> rcases oP b1 b2 a1 a2 with ⟨bD,cm,jB,lv,k⟩|⟨bD,cm,jB,lv,k⟩ <;> rw[h1,h2,ar,aK,bD,cm,jB,lv] <;> (try have:=dM.D1 h k) <;> simp_all
theorem Cs{p1 p2 a1 a2 b1 b2:Int}:dJ p1 p2 b1 b2 a1 a2↔dJ p1 p2 a1 a2 b1 b2:=by
  unfold dJ tL;have e:cq b1 b2 a1 a2 p1 p2 = - cq a1 a2 b1 b2 p1 p2:=by unfold cq;grind
  have m:∀x y:Int,hK x y=hK y x:=fun x y=>by unfold hK;split <;> split <;> omega
  have n:∀x y:Int,hJ x y=hJ y x:=fun x y=>by unfold hJ;split <;> split <;> omega
  rw[e,m a1,m a2,n a1,n a2]
  constructor <;> rintro⟨h,k⟩ <;> exact⟨by omega,k⟩
instance (p1 p2 a1 a2 b1 b2:Int):Decidable (tL p1 p2 a1 a2 b1 b2):=by unfold tL;exact inferInstance
instance (p1 p2 a1 a2 b1 b2:Int):Decidable (dJ p1 p2 a1 a2 b1 b2):=by unfold dJ;exact inferInstance
theorem Cu{p1 p2 a1 a2 b1 b2:Int}:dJ p1 p2 (eZ a1 a2 b1 b2) (eH a1 a2 b1 b2) (en a1 a2 b1 b2) (eh a1 a2 b1 b2)↔dJ p1 p2 a1 a2 b1 b2:=by
  rcases oP a1 a2 b1 b2 with ⟨h1,h2,ar,aK,h⟩|⟨h1,h2,ar,aK,h⟩ <;> rw[h1,h2,ar,aK];exact Cs
theorem ai3{s1 s2 bV b8 t1 t2 t3 t4:Int}:qp t1 t2 t3 t4 s1 s2 bV b8 = - qp s1 s2 bV b8 t1 t2 t3 t4:=by unfold qp;grind
theorem RO{s1 s2 bV b8 t1 t2 t3 t4 p1 p2:Int}(hs:dM s1 s2 bV b8)(aC:dM t1 t2 t3 t4)(hw:qp s1 s2 bV b8 t1 t2 t3 t4=0)(ps:dJ p1 p2 s1 s2 bV b8)(qs:dJ p1 p2 t1 t2 t3 t4) :
    dJ (en s1 s2 t1 t2) (eh s1 s2 t1 t2) s1 s2 bV b8∧dJ (en s1 s2 t1 t2) (eh s1 s2 t1 t2) t1 t2 t3 t4∧dJ (eZ bV b8 t3 t4) (eH bV b8 t3 t4) s1 s2 bV b8∧dJ (eZ bV b8 t3 t4) (eH bV b8 t3 t4) t1 t2 t3 t4
    ∧ dM (en s1 s2 t1 t2) (eh s1 s2 t1 t2) p1 p2∧dM p1 p2 (eZ bV b8 t3 t4) (eH bV b8 t3 t4):=by
  obtain⟨_,eA,zx⟩:=(xl hs).1 ps;obtain⟨_,t0,t9⟩:=(xl aC).1 qs;have nD:qp t1 t2 t3 t4 s1 s2 bV b8=0:=by rw[ai3];omega
  rcases oP s1 s2 t1 t2 with ⟨_,_,ar,aK,h⟩|⟨_,_,ar,aK,h⟩ <;> rcases oP bV b8 t3 t4 with ⟨bD,cm,_,_,k⟩|⟨bD,cm,_,_,k⟩ <;> rw[ar,aK,bD,cm]
  · exact⟨vu aC hs nD qs ps (vr aC) h (t0.trans zx),vr aC,vq hs,vu hs aC hw ps qs (vq hs) (t0.trans zx) k,t0,zx⟩
  · exact⟨vu aC hs nD qs ps (vr aC) h (t0.trans zx),vr aC,vu aC hs nD qs ps (vq aC) (eA.trans t9) k,vq aC,t0,t9⟩
  · exact⟨vr hs,vu hs aC hw ps qs (vr hs) h (eA.trans t9),vq hs,vu hs aC hw ps qs (vq hs) (t0.trans zx) k,eA,zx⟩
  · exact⟨vr hs,vu hs aC hw ps qs (vr hs) h (eA.trans t9),vu aC hs nD qs ps (vq aC) (eA.trans t9) k,vq aC,eA,t9⟩
def w6(f1 f2 g1 g2:Int):fY:=if f1=g1∧f2=g2 then kd f1 1 f2 1 else uH f1 f2 g1 g2
def inl(s1 s2 bV b8 t1 t2 t3 t4:Int):fY :=
  if dJ (en s1 s2 t1 t2) (eh s1 s2 t1 t2) s1 s2 bV b8∧dJ (en s1 s2 t1 t2) (eh s1 s2 t1 t2) t1 t2 t3 t4 then w6 (en s1 s2 t1 t2) (eh s1 s2 t1 t2) (eZ bV b8 t3 t4) (eH bV b8 t3 t4) else iR
def w7(a1 a2 b1 b2 c1 c2 d1 d2:Int):fY:=inl (eZ a1 a2 b1 b2) (eH a1 a2 b1 b2) (en a1 a2 b1 b2) (eh a1 a2 b1 b2) (eZ c1 c2 d1 d2) (eH c1 c2 d1 d2) (en c1 c2 d1 d2) (eh c1 c2 d1 d2)
def jn(a1 a2 b1 b2 c1 c2 d1 d2:Int):fY:=if du a1 a2 b1 b2 c1 c2 d1 d2=0 then w7 a1 a2 b1 b2 c1 c2 d1 d2 else oq a1 a2 b1 b2 c1 c2 d1 d2
theorem R3(a1 a2 b1 b2 c1 c2 d1 d2:Int):jn b1 b2 a1 a2 c1 c2 d1 d2=jn a1 a2 b1 b2 c1 c2 d1 d2:=by
  unfold jn;obtain⟨h1,h2,ar,aK⟩:=RN a1 a2 b1 b2
  by_cases h:du a1 a2 b1 b2 c1 c2 d1 d2=0
  · rw[if_pos (by rw[Hi];omega),if_pos h];unfold w7;rw[h1,h2,ar,aK]
  · rw[if_neg (by rw[Hi];omega),if_neg h,agh h]
theorem R4(a1 a2 b1 b2 c1 c2 d1 d2:Int):jn a1 a2 b1 b2 d1 d2 c1 c2=jn a1 a2 b1 b2 c1 c2 d1 d2:=by
  unfold jn;obtain⟨h1,h2,ar,aK⟩:=RN c1 c2 d1 d2
  by_cases h:du a1 a2 b1 b2 c1 c2 d1 d2=0
  · rw[if_pos (by rw[Dc];omega),if_pos h];unfold w7;rw[h1,h2,ar,aK]
  · rw[if_neg (by rw[Dc];omega),if_neg h,agi h]
theorem agl(a1 a2 b1 b2 c1 c2 d1 d2:Int):jn (eZ a1 a2 b1 b2) (eH a1 a2 b1 b2) (en a1 a2 b1 b2) (eh a1 a2 b1 b2) (eZ c1 c2 d1 d2) (eH c1 c2 d1 d2) (en c1 c2 d1 d2) (eh c1 c2 d1 d2)=jn a1 a2 b1 b2 c1 c2 d1 d2:=by
  rcases oP a1 a2 b1 b2 with ⟨h1,h2,ar,aK,_⟩|⟨h1,h2,ar,aK,_⟩ <;> rcases oP c1 c2 d1 d2 with ⟨bD,cm,jB,lv,_⟩|⟨bD,cm,jB,lv,_⟩ <;> rw[h1,h2,ar,aK,bD,cm,jB,lv]
  · rw[R4]
  · rw[R3]
  · rw[R3,R4]
def K1(s1 s2 bV b8 t1 t2 t3 t4 A B C D:Int):fY :=
  if A=B then inl s1 s2 bV b8 t1 t2 t3 t4
  else if same A B∨same C D then iR
  else kd (kE (t3*A-t1*B) (A-B)) (jE (A-B)) (kE (t4*A-t2*B) (A-B)) (jE (A-B))
theorem RX{s1 s2 bV b8:Int}(h:dM s1 s2 bV b8):eZ s1 s2 bV b8=s1∧eH s1 s2 bV b8=s2∧en s1 s2 bV b8=bV∧eh s1 s2 bV b8=b8:=by
  unfold eZ eH en eh;simp[h]
theorem agk{s1 s2 bV b8 t1 t2 t3 t4:Int}(hs:dM s1 s2 bV b8)(aC:dM t1 t2 t3 t4) :
    K1 s1 s2 bV b8 t1 t2 t3 t4 (cq s1 s2 bV b8 t1 t2) (cq s1 s2 bV b8 t3 t4) (cq t1 t2 t3 t4 s1 s2) (cq t1 t2 t3 t4 bV b8)=jn s1 s2 bV b8 t1 t2 t3 t4:=by
  have aH:=Lf s1 s2 bV b8 t1 t2 t3 t4;have aN:=Lg s1 s2 bV b8 t1 t2 t3 t4;have b6:=MJ s1 s2 bV b8 t1 t2 t3 t4;unfold K1 jn
  by_cases h:du s1 s2 bV b8 t1 t2 t3 t4=0
  · rw[if_pos (by omega),if_pos h]
    unfold w7;obtain⟨h1,h2,ar,aK⟩:=RX hs;obtain⟨bD,cm,jB,lv⟩:=RX aC;rw[h1,h2,ar,aK,bD,cm,jB,lv]
  · rw[if_neg (by omega),if_neg h]
    have f:=aa0 h;have g1:t3*cq s1 s2 bV b8 t1 t2-t1*cq s1 s2 bV b8 t3 t4 = - k0 s1 s2 bV b8 t1 t2 t3 t4:=by omega
    have g2:t4*cq s1 s2 bV b8 t1 t2-t2*cq s1 s2 bV b8 t3 t4 = - k1 s1 s2 bV b8 t1 t2 t3 t4:=by omega
    have g3:cq s1 s2 bV b8 t1 t2-cq s1 s2 bV b8 t3 t4 = - du s1 s2 bV b8 t1 t2 t3 t4:=by omega
    rw[g1,g2,g3,sA h,sA h,Cq];unfold oq vm
    by_cases q:same (cq s1 s2 bV b8 t1 t2) (cq s1 s2 bV b8 t3 t4)∨same (cq t1 t2 t3 t4 s1 s2) (cq t1 t2 t3 t4 bV b8)
    · rw[if_pos q,if_neg fun k=>f.1 k q]
    · rw[if_neg q,if_pos (f.2 q)]
structure iJ where
 n:Int
 d:Int
 own:Bool
structure Pa where
 f:iJ
 t:iJ
def iq(x y:iJ):Int:=fm (x.n*y.d) (y.n*x.d)
def ss(x y:iJ):iJ:=if 0<iq x y∨(iq x y=0∧y.own=true) then x else y
def r5(x y:iJ):iJ:=if iq x y<0∨(iq x y=0∧y.own=true) then x else y
def pw(p:Pa)(u v:Int)(own:Bool):Pa :=
 if 0<v-u then ⟨ss p.f ⟨-u,v-u,own⟩,p.t⟩
 else if v-u<0 then ⟨p.f,r5 p.t ⟨u,-(v-u),own⟩⟩
 else if u<0∨(u=0∧own=false) then ⟨⟨1,1,false⟩,⟨0,1,false⟩⟩ else p
def yb(p:Pa):Bool:=decide (iq p.f p.t<0)||(decide (iq p.f p.t=0)&&p.f.own&&p.t.own)
def wj:Pa:=⟨⟨0,1,true⟩,⟨1,1,true⟩⟩
theorem aeq(x y:Int):fm x y<0↔x<y:=by unfold fm;split <;> (try split) <;> omega
theorem aep(x y:Int):0<fm x y↔y<x:=by unfold fm;split <;> (try split) <;> omega
theorem aeo(x y:Int):fm x y=0↔x=y:=by unfold fm;split <;> (try split) <;> omega
def rO(x:iJ)(n d:Int):Prop:=x.n*d<n*x.d∨(x.own=true∧x.n*d=n*x.d)
def rP(y:iJ)(n d:Int):Prop:=n*y.d<y.n*d∨(y.own=true∧n*y.d=y.n*d)
def qI(p:Pa)(n d:Int):Prop:=rO p.f n d∧rP p.t n d
theorem qi{a b c:Int}(h:a<b)(ak:0<c):a*c<b*c:=Int.mul_lt_mul_of_pos_right h ak
theorem lt_mul{a b c:Int}(h:a*c<b*c)(ak:0<c):a<b:=Int.lt_of_mul_lt_mul_right h (by omega)
theorem eq_mul{a b c:Int}(h:a*c=b*c)(ak:0<c):a=b:=Int.eq_of_mul_eq_mul_right (by omega) h
theorem wJ{a b c d e f:Int}(aa:0<b)(hd:0<d)(aw:0<f)(h:a*d<c*b)(k:c*f<e*d):a*f<e*b:=by
 have h1:=qi h aw;have h2:=qi k aa;refine lt_mul (c:=d) ?_ hd;have aH:a*d*f=a*f*d:=by grind
 have aN:c*b*f=c*f*b:=by grind
 have b6:e*d*b=e*b*d:=by grind
 omega
theorem yn{a b c d e f:Int}(aa:0<b)(hd:0<d)(aw:0<f)(h:a*d=c*b)(k:c*f<e*d):a*f<e*b:=by
 have h2:=qi k aa;refine lt_mul (c:=d) ?_ hd;have aH:a*d*f=a*f*d:=by grind
 have aN:c*b*f=c*f*b:=by grind
 have b6:e*d*b=e*b*d:=by grind
 have h1:a*d*f=c*b*f:=by rw[h]
 omega
theorem yo{a b c d e f:Int}(aa:0<b)(hd:0<d)(aw:0<f)(h:a*d<c*b)(k:c*f=e*d):a*f<e*b:=by
 have h1:=qi h aw;refine lt_mul (c:=d) ?_ hd;have aH:a*d*f=a*f*d:=by grind
 have aN:c*b*f=c*f*b:=by grind
 have b6:e*d*b=e*b*d:=by grind
 have h2:c*f*b=e*d*b:=by rw[k]
 omega
theorem I6{a b c d e f:Int}(aa:0<b)(hd:0<d)(aw:0<f)(h:a*d=c*b)(k:c*f=e*d):a*f=e*b:=by
 refine eq_mul (c:=d) ?_ hd;have aH:a*d*f=a*f*d:=by grind
 have aN:c*b*f=c*f*b:=by grind
 have b6:e*d*b=e*b*d:=by grind
 have h1:a*d*f=c*b*f:=by rw[h]
 have h2:c*f*b=e*d*b:=by rw[k]
 omega
theorem El(x y:iJ):(x.n*y.d<y.n*x.d∧iq x y<0)∨(x.n*y.d=y.n*x.d∧iq x y=0)∨(y.n*x.d<x.n*y.d∧0<iq x y):=by
 have h1:=aeq (x.n*y.d) (y.n*x.d);have h2:=aep (x.n*y.d) (y.n*x.d);have ar:=aeo (x.n*y.d) (y.n*x.d);unfold iq;omega
theorem RH(x y:iJ):(ss x y=x∧(0<iq x y∨(iq x y=0∧y.own=true)))∨(ss x y=y∧¬(0<iq x y∨(iq x y=0∧y.own=true))):=by
 unfold ss
 split
 ·rename_i h;exact .inl ⟨rfl,h⟩
 ·rename_i h;exact .inr ⟨rfl,h⟩
theorem OX(x y:iJ):(r5 x y=x∧(iq x y<0∨(iq x y=0∧y.own=true)))∨(r5 x y=y∧¬(iq x y<0∨(iq x y=0∧y.own=true))):=by
 unfold r5
 split
 ·rename_i h;exact .inl ⟨rfl,h⟩
 ·rename_i h;exact .inr ⟨rfl,h⟩
theorem Yf{x y:iJ}{n d:Int}(ab:0<x.d)(ai:0<y.d)(hd:0<d):rO (ss x y) n d↔rO x n d∧rO y n d:=by
 unfold rO;rcases RH x y with ⟨e,h⟩|⟨e,h⟩ <;> rw[e] <;> rcases El x y with ⟨t,c⟩|⟨t,c⟩|⟨t,c⟩
 ·omega
 ·have aD:y.own=true:=by rcases h with h|⟨_,h⟩ <;> first|exact h|(exfalso;omega)
  refine⟨fun k=>⟨k,?_⟩,fun k=>k.1⟩;rcases k with k|⟨_,k⟩
  ·exact .inl (yn ai ab hd t.symm k)
  ·exact .inr ⟨aD,I6 ai ab hd t.symm k⟩
 ·refine⟨fun k=>⟨k,?_⟩,fun k=>k.1⟩;rcases k with k|⟨_,k⟩
  ·exact .inl (wJ ai ab hd t k)
  ·exact .inl (yo ai ab hd t k)
 ·refine⟨fun k=>⟨?_,k⟩,fun k=>k.2⟩;rcases k with k|⟨_,k⟩
  ·exact .inl (wJ ab ai hd t k)
  ·exact .inl (yo ab ai hd t k)
 ·refine⟨fun k=>⟨?_,k⟩,fun k=>k.2⟩;have aD:¬y.own=true:=fun q=>h (.inr ⟨c,q⟩);rcases k with k|⟨q,k⟩
  ·exact .inl (yn ab ai hd t k)
  ·exact absurd q aD
 ·omega
theorem Zm{x y:iJ}{n d:Int}(ab:0<x.d)(ai:0<y.d)(hd:0<d):rP (r5 x y) n d↔rP x n d∧rP y n d:=by
 unfold rP;rcases OX x y with ⟨e,h⟩|⟨e,h⟩ <;> rw[e] <;> rcases El x y with ⟨t,c⟩|⟨t,c⟩|⟨t,c⟩
 ·refine⟨fun k=>⟨k,?_⟩,fun k=>k.1⟩;rcases k with k|⟨_,k⟩
  ·exact .inl (wJ hd ab ai k t)
  ·exact .inl (yn hd ab ai k t)
 ·have aD:y.own=true:=by rcases h with h|⟨_,h⟩ <;> first|exact h|(exfalso;omega)
  refine⟨fun k=>⟨k,?_⟩,fun k=>k.1⟩;rcases k with k|⟨_,k⟩
  ·exact .inl (yo hd ab ai k t)
  ·exact .inr ⟨aD,I6 hd ab ai k t⟩
 ·omega
 ·omega
 ·refine⟨fun k=>⟨?_,k⟩,fun k=>k.2⟩;have aD:¬y.own=true:=fun q=>h (.inr ⟨c,q⟩);rcases k with k|⟨q,k⟩
  ·exact .inl (yo hd ai ab k t.symm)
  ·exact absurd q aD
 ·refine⟨fun k=>⟨?_,k⟩,fun k=>k.2⟩;rcases k with k|⟨_,k⟩
  ·exact .inl (wJ hd ai ab k t)
  ·exact .inl (yn hd ai ab k t)
def kN(u v:Int)(own:Bool)(n d:Int):Prop:=0<u*(d-n)+v*n∨(own=true∧u*(d-n)+v*n=0)
theorem FY{p:Pa}{u v n d:Int}{own:Bool}(aw:0<p.f.d)(aC:0<p.t.d)(hd:0<d):qI (pw p u v own) n d↔qI p n d∧kN u v own n d:=by
 have cr:u*(d-n)+v*n=(v-u)*n+u*d:=by grind
 unfold pw
 by_cases h1:0<v-u
 ·rw[if_pos h1];unfold qI;rw[Yf aw h1 hd]
  have:rO ⟨-u,v-u,own⟩ n d↔kN u v own n d:=by
   unfold rO kN;simp only;have aH : -u*d = -(u*d):=by grind
   have aN:n*(v-u)=(v-u)*n:=by grind
   rw[cr,aH,aN]
   constructor
   ·rintro (k|⟨k,l⟩)
    ·exact .inl (by omega)
    ·exact .inr ⟨k,by omega⟩
   ·rintro (k|⟨k,l⟩)
    ·exact .inl (by omega)
    ·exact .inr ⟨k,by omega⟩
  rw[this]
  constructor
  ·rintro⟨⟨a,b⟩,c⟩;exact⟨⟨a,c⟩,b⟩
  ·rintro⟨⟨a,c⟩,b⟩;exact⟨⟨a,b⟩,c⟩
 ·rw[if_neg h1]
  by_cases h2:v-u<0
  ·rw[if_pos h2];unfold qI;have aj:(0:Int) < -(v-u):=by omega
   rw[Zm aC aj hd]
   have:rP ⟨u,-(v-u),own⟩ n d↔kN u v own n d:=by
    unfold rP kN;simp only;have aN:n * -(v-u) = -((v-u)*n):=by grind
    rw[cr,aN]
    constructor
    ·rintro (k|⟨k,l⟩)
     ·exact .inl (by omega)
     ·exact .inr ⟨k,by omega⟩
    ·rintro (k|⟨k,l⟩)
     ·exact .inl (by omega)
     ·exact .inr ⟨k,by omega⟩
   rw[this]
   constructor
   ·rintro⟨a,b,c⟩;exact⟨⟨a,b⟩,c⟩
   ·rintro⟨⟨a,b⟩,c⟩;exact⟨a,b,c⟩
  ·rw[if_neg h2];have b6:v-u=0:=by omega
   have eb:u*(d-n)+v*n=u*d:=by rw[cr,b6];omega
   by_cases ar:u<0∨(u=0∧own=false)
   ·rw[if_pos ar]
    have lr:¬kN u v own n d:=by
     unfold kN;rw[eb];rcases ar with ar|⟨rfl,rfl⟩
     ·have:=qi ar hd;omega
     ·simp
    refine⟨fun k=>absurd k ?_,fun k=>absurd k.2 lr⟩;unfold qI rO rP;simp;omega
   ·rw[if_neg ar]
    have ael:kN u v own n d:=by
     unfold kN;rw[eb]
     by_cases aK:u=0
     ·subst aK;right;refine⟨?_,by simp⟩;cases own with
      | true=>rfl
      | false=>exact absurd (.inr ⟨rfl,rfl⟩) ar
     ·left;have:0<u:=by omega
      have:=qi this hd;omega
    exact⟨fun k=>⟨k,ael⟩,fun k=>k.1⟩
theorem afK{x y:iJ}(ab:0<x.d)(ai:0<y.d):0<(ss x y).d:=by unfold ss;split <;> assumption
theorem aau{x y:iJ}(ab:0<x.d)(ai:0<y.d):0<(r5 x y).d:=by unfold r5;split <;> assumption
theorem w8{p:Pa}{u v:Int}{own:Bool}(aw:0<p.f.d)(aC:0<p.t.d):0<(pw p u v own).f.d∧0<(pw p u v own).t.d:=by
 unfold pw
 by_cases h1:0<v-u
 ·rw[if_pos h1];exact⟨afK aw h1,aC⟩
 ·rw[if_neg h1]
  by_cases h2:v-u<0
  ·rw[if_pos h2];exact⟨aw,aau aC (by simp only;omega)⟩
  ·rw[if_neg h2]
   split
   ·exact⟨by decide,by decide⟩
   ·exact⟨aw,aC⟩
def Sb(x y:iJ):Int:=x.n*y.d+y.n*x.d
def K3(x y:iJ):Int:=x.d*y.d+x.d*y.d
theorem agq{p:Pa}(aw:0<p.f.d)(aC:0<p.t.d)(h:p.f.n*p.t.d<p.t.n*p.f.d):0<K3 p.f p.t∧qI p (Sb p.f p.t) (K3 p.f p.t):=by
 unfold Sb K3 qI rO rP;have hm:0<p.f.d*p.t.d:=Int.mul_pos aw aC;refine⟨by omega,.inl ?_,.inl ?_⟩
 ·have:=qi h aw;grind
 ·have:=qi h aC;grind
theorem Y9{p:Pa}(aw:0<p.f.d)(aC:0<p.t.d):yb p=true↔∃n d,0<d∧qI p n d:=by
 unfold yb;simp only[pA,eg,cT]
 constructor
 ·intro h;rcases El p.f p.t with ⟨t,c⟩|⟨t,c⟩|⟨t,c⟩
  ·obtain⟨h1,h2⟩:=agq aw aC t;exact⟨_,_,h1,h2⟩
  ·rcases h with h|⟨⟨_,h1⟩,h2⟩
   ·omega
   ·exact⟨p.f.n,p.f.d,aw,.inr ⟨h1,rfl⟩,.inr ⟨h2,t⟩⟩
  ·rcases h with h|⟨⟨h,_⟩,_⟩ <;> omega
 ·rintro⟨n,d,hd,h1,h2⟩;rcases El p.f p.t with ⟨t,c⟩|⟨t,c⟩|⟨t,c⟩
  ·exact .inl c
  ·right;refine⟨⟨c,?_⟩,?_⟩
   ·rcases h1 with h1|⟨h1,_⟩
    ·exfalso;rcases h2 with h2|⟨_,h2⟩
     ·have:=wJ aw hd aC h1 h2;omega
     ·have:=yo aw hd aC h1 h2;omega
    ·exact h1
   ·rcases h2 with h2|⟨h2,_⟩
    ·exfalso;rcases h1 with h1|⟨_,h1⟩
     ·have:=wJ aw hd aC h1 h2;omega
     ·have:=yn aw hd aC h1 h2;omega
    ·exact h2
  ·exfalso;rcases h1 with h1|⟨_,h1⟩ <;> rcases h2 with h2|⟨_,h2⟩
   ·have:=wJ aw hd aC h1 h2;omega
   ·have:=yo aw hd aC h1 h2;omega
   ·have:=yn aw hd aC h1 h2;omega
   ·have:=I6 aw hd aC h1 h2;omega
def uO(cP v1 cQ v2 kL v3 mC v4:Int)(o p:Bool):Pa:=pw (pw (pw (pw wj cP v1 o) cQ v2 o) kL v3 p) mC v4 p
theorem Z7(cP v1 cQ v2 kL v3 mC v4:Int)(o p:Bool):0<(uO cP v1 cQ v2 kL v3 mC v4 o p).f.d∧0<(uO cP v1 cQ v2 kL v3 mC v4 o p).t.d:=by
 unfold uO;have h1:=w8 (p:=wj) (u:=cP) (v:=v1) (own:=o) (by decide) (by decide);have h2:=w8 (u:=cQ) (v:=v2) (own:=o) h1.1 h1.2;have ar:=w8 (u:=kL) (v:=v3) (own:=p) h2.1 h2.2;exact w8 (u:=mC) (v:=v4) (own:=p) ar.1 ar.2
theorem YA{n d:Int}(hd:0<d):qI wj n d↔0≤n∧n≤d:=by
 unfold qI rO rP wj;simp;omega
theorem OE{cP v1 cQ v2 kL v3 mC v4 n d:Int}{o p:Bool}(hd:0<d):qI (uO cP v1 cQ v2 kL v3 mC v4 o p) n d↔(0≤n∧n≤d)∧kN cP v1 o n d∧kN cQ v2 o n d∧kN kL v3 p n d∧kN mC v4 p n d:=by
 unfold uO;have h1:=w8 (p:=wj) (u:=cP) (v:=v1) (own:=o) (by decide) (by decide);have h2:=w8 (u:=cQ) (v:=v2) (own:=o) h1.1 h1.2;have ar:=w8 (u:=kL) (v:=v3) (own:=p) h2.1 h2.2;rw[FY ar.1 ar.2 hd,FY h2.1 h2.2 hd,FY h1.1 h1.2 hd,FY (by decide) (by decide) hd,YA hd];simp only[and_assoc]
def Met(cP v1 cQ v2 kL v3 mC v4:Int)(o p:Bool):Prop:=∃n d,0<d∧(0≤n∧n≤d)∧kN cP v1 o n d∧kN cQ v2 o n d∧kN kL v3 p n d∧kN mC v4 p n d
theorem Z6(cP v1 cQ v2 kL v3 mC v4:Int)(o p:Bool):yb (uO cP v1 cQ v2 kL v3 mC v4 o p)=true↔Met cP v1 cQ v2 kL v3 mC v4 o p:=by
 obtain⟨h1,h2⟩:=Z7 cP v1 cQ v2 kL v3 mC v4 o p;rw[Y9 h1 h2]
 constructor
 ·rintro⟨n,d,hd,h⟩;exact⟨n,d,hd,(OE hd).1 h⟩
 ·rintro⟨n,d,hd,h⟩;exact⟨n,d,hd,(OE hd).2 h⟩
def x0(X Y W a1 a2 b1 b2:Int):Prop:=∃n d,0<d∧(0≤n∧n≤d)∧X*d=W*(a1*(d-n)+b1*n)∧Y*d=W*(a2*(d-n)+b2*n)
theorem SY{p1 p2 a1 a2 b1 b2:Int}(h:dJ p1 p2 a1 a2 b1 b2):x0 p1 p2 1 a1 a2 b1 b2:=by
 obtain⟨aE,h1,h2,ar,aK⟩:=h;unfold cq at aE;unfold hK at h1 ar;unfold hJ at h2 aK;rcases Int.lt_trichotomy a1 b1 with g|g|g
 ·rw[if_neg (by omega)] at h1;rw[if_pos (show b1>a1 from g)] at h2;exact⟨p1-a1,b1-a1,by omega,by omega,by grind,by grind⟩
 ·subst g;rcases Int.lt_trichotomy a2 b2 with g|g|g
  ·rw[if_neg (by omega)] at ar;rw[if_pos (show b2>a2 from g)] at aK;have:p1=a1:=by split at h1 <;> split at h2 <;> omega
   exact⟨p2-a2,b2-a2,by omega,by omega,by grind,by grind⟩
  ·subst g;have aH:p1=a1:=by split at h1 <;> split at h2 <;> omega
   have aN:p2=a2:=by split at ar <;> split at aK <;> omega
   exact⟨0,1,by omega,by omega,by grind,by grind⟩
  ·rw[if_pos g] at ar;rw[if_neg (by omega)] at aK;have:p1=a1:=by split at h1 <;> split at h2 <;> omega
   exact⟨a2-p2,a2-b2,by omega,by omega,by grind,by grind⟩
 ·rw[if_pos g] at h1;rw[if_neg (by omega)] at h2;exact⟨a1-p1,a1-b1,by omega,by omega,by grind,by grind⟩
theorem Me{v W:Int}(gj:0<W)(h:0≤v*W):0≤v:=by
 refine Int.not_lt.1 fun a8 => ?_;have:=Int.mul_lt_mul_of_pos_right a8 gj;omega
theorem akP{v W:Int}(gj:0<W)(h:0<v*W):0<v:=by
 refine Int.not_le.1 fun hle => ?_;have:=qx hle (show 0≤W by omega);omega
theorem TU{X Y W a1 a2 b1 b2 l1 l2 h1 h2:Int}(gj:0<W)(h:x0 X Y W a1 a2 b1 b2)(g1:l1*W≤2*X)(g2:l2*W≤2*Y)(g3:2*X<h1*W)(g4:2*Y<h2*W) :
  Met (2*a1-l1) (2*b1-l1) (2*a2-l2) (2*b2-l2) (h1-2*a1) (h1-2*b1) (h2-2*a2) (h2-2*b2) true false:=by
 obtain⟨n,d,hd,aA,aH,aN⟩:=h
 have low:∀ {X a b l:Int},X*d=W*(a*(d-n)+b*n)→l*W≤2*X→kN (2*a-l) (2*b-l) true n d:=fun{X a b l} e g=>by
  have k:=hP (show 0≤d by omega) (show 0≤2*X-l*W by omega);have e':((2*a-l)*(d-n)+(2*b-l)*n)*W=d*(2*X-l*W):=by grind
  rw[←e'] at k;rcases Int.lt_or_eq_of_le (Me gj k) with h|h
  ·exact .inl h
  ·exact .inr ⟨rfl,h.symm⟩
 have high:∀ {X a b l:Int},X*d=W*(a*(d-n)+b*n)→2*X<l*W→kN (l-2*a) (l-2*b) false n d:=fun{X a b l} e g=>by
  have k:=Int.mul_pos hd (show 0<l*W-2*X by omega);have e':((l-2*a)*(d-n)+(l-2*b)*n)*W=d*(l*W-2*X):=by grind
  rw[←e'] at k;exact .inl (akP gj k)
 exact⟨n,d,hd,aA,low aH g1,low aN g2,high aH g3,high aN g4⟩
theorem TT{X Y W a1 a2 b1 b2:Int}(h:x0 X Y W a1 a2 b1 b2):(b1-a1)*(Y-a2*W)=(b2-a2)*(X-a1*W):=by
 obtain⟨n,d,hd,aA,aH,aN⟩:=h;have:d*((b1-a1)*(Y-a2*W)-(b2-a2)*(X-a1*W))=0:=by grind
 rcases ug.1 this with h|h
 ·omega
 ·omega
theorem R2{a1 a2 b1 b2 c1 c2 d1 d2 X Y W W':Int}(h:du a1 a2 b1 b2 c1 c2 d1 d2≠0)(e:oq a1 a2 b1 b2 c1 c2 d1 d2=kd X W Y W'):W'=W∧0<W∧x0 X Y W c1 c2 d1 d2:=by
 obtain⟨_,cA⟩:=VZ h;unfold oq vm at e
 split at e
 ·rename_i aK;obtain⟨_,_,bD,cm⟩:=aK;have aH:=congrArg fY.n e;have aN:=congrArg fY.d e;have b6:=congrArg fY.m e;have eb:=congrArg fY.e e;simp only[kd] at aH aN b6 eb;have hn:=Lf a1 a2 b1 b2 c1 c2 d1 d2;have nx:=Lg a1 a2 b1 b2 c1 c2 d1 d2;have hw:=MJ a1 a2 b1 b2 c1 c2 d1 d2;rw[←aN,←eb];refine⟨rfl,SC h,?_⟩;rw[tg] at bD cm;unfold kE at aH b6 bD cm;unfold jE at bD cm ⊢
  by_cases hs:du a1 a2 b1 b2 c1 c2 d1 d2<0
  ·rw[if_pos hs] at aH b6 bD cm ⊢;rw[if_pos hs] at bD cm
   have:=(Ee (x:=d1) (y:=c1) (u:=d2) (v:=c2) (A := -cq a1 a2 b1 b2 d1 d2) (B := -cq a1 a2 b1 b2 c1 c2) (D := -du a1 a2 b1 b2 c1 c2 d1 d2) (by omega) (by omega) (by omega)).1 ⟨by
    rw[show c1 * -cq a1 a2 b1 b2 d1 d2-d1 * -cq a1 a2 b1 b2 c1 c2 = -k0 a1 a2 b1 b2 c1 c2 d1 d2 by grind];exact bD,by
    rw[show c2 * -cq a1 a2 b1 b2 d1 d2-d2 * -cq a1 a2 b1 b2 c1 c2 = -k1 a1 a2 b1 b2 c1 c2 d1 d2 by grind];exact cm⟩
   exact⟨cq a1 a2 b1 b2 c1 c2,-du a1 a2 b1 b2 c1 c2 d1 d2,by omega,by omega,by rw[←aH];grind,by rw[←b6];grind⟩
  ·rw[if_neg hs] at aH b6 bD cm ⊢;rw[if_neg hs] at bD cm
   have:=(Ee (x:=d1) (y:=c1) (u:=d2) (v:=c2) (A:=cq a1 a2 b1 b2 d1 d2) (B:=cq a1 a2 b1 b2 c1 c2) (D:=du a1 a2 b1 b2 c1 c2 d1 d2) (by omega) (by omega) (by omega)).1 ⟨by
    rw[hn];exact bD,by
    rw[nx];exact cm⟩
   exact⟨-cq a1 a2 b1 b2 c1 c2,du a1 a2 b1 b2 c1 c2 d1 d2,by omega,by omega,by rw[←aH];grind,by rw[←b6];grind⟩
 ·have:=congrArg fY.k e;simp[iR,kd] at this
theorem Cf{a1 a2 b1 b2 c1 c2 d1 d2 X Y W W':Int}(e:jn a1 a2 b1 b2 c1 c2 d1 d2=kd X W Y W'):W'=W∧0<W∧x0 X Y W a1 a2 b1 b2∧x0 X Y W c1 c2 d1 d2∧(∀p1 p2,dJ p1 p2 a1 a2 b1 b2→dJ p1 p2 c1 c2 d1 d2→X=p1*W∧Y=p2*W):=by
 unfold jn at e
 split at e
 ·rename_i hw;unfold w7 inl at e
  split at e
  ·rename_i Kc;obtain⟨o1,o2⟩:=Kc;unfold w6 at e
   split at e
   ·rename_i yz;have aH:=congrArg fY.n e;have aN:=congrArg fY.d e;have b6:=congrArg fY.m e;have eb:=congrArg fY.e e;simp only[kd] at aH aN b6 eb;subst aN;subst eb;rw[Cu] at o1 o2;rw[aH,b6] at o1 o2;refine⟨rfl,by decide,SY o1,SY o2,fun p1 p2 hp aj => ?_⟩
    have adL:qp (eZ a1 a2 b1 b2) (eH a1 a2 b1 b2) (en a1 a2 b1 b2) (eh a1 a2 b1 b2) (eZ c1 c2 d1 d2) (eH c1 c2 d1 d2) (en c1 c2 d1 d2) (eh c1 c2 d1 d2)=0:=by
     rw[V0] at hw;rcases oP a1 a2 b1 b2 with ⟨h1,h2,ar,aK,_⟩|⟨h1,h2,ar,aK,_⟩ <;> rcases oP c1 c2 d1 d2 with ⟨bD,cm,jB,lv,_⟩|⟨bD,cm,jB,lv,_⟩ <;> rw[h1,h2,ar,aK,bD,cm,jB,lv] <;> unfold qp at hw ⊢ <;> grind
    obtain⟨_,_,_,_,l1,l2⟩:=RO (yV a1 a2 b1 b2) (yV c1 c2 d1 d2) adL (Cu.2 hp) (Cu.2 aj);rw[←yz.1,←yz.2] at l2;have:=dM.D1 l1 l2;omega
   ·have:=congrArg fY.k e;simp[uH,kd] at this
  ·have:=congrArg fY.k e;simp[iR,kd] at this
 ·rename_i hw;obtain⟨g1,g2,g3⟩:=R2 hw e;have nD:du c1 c2 d1 d2 a1 a2 b1 b2≠0:=by rw[Hj];omega
  obtain⟨_,_,g4⟩:=R2 nD (by rw[agj hw];exact e);refine⟨g1,g2,g4,g3,fun p1 p2 hp aj => ?_⟩;have l1:=TT g4;have l2:=TT g3;have q1:=hp.1;have q2:=aj.1;unfold cq at q1 q2
  have line:∀ {a1 a2 b1 b2:Int},(b1-a1)*(Y-a2*W)=(b2-a2)*(X-a1*W)→(b1-a1)*(p2-a2)-(b2-a2)*(p1-a1)=0→(b1-a1)*(Y-p2*W)=(b2-a2)*(X-p1*W):=fun{a1 a2 b1 b2} l q=>by
   have z:(b1-a1)*(Y-p2*W)-(b2-a2)*(X-p1*W)=((b1-a1)*(Y-a2*W)-(b2-a2)*(X-a1*W))-((b1-a1)*(p2-a2)-(b2-a2)*(p1-a1))*W:=by grind
   rw[q,l,Int.zero_mul] at z;omega
  have m1:=line l1 q1;have m2:=line l2 q2
  have jq:du a1 a2 b1 b2 c1 c2 d1 d2*(X-p1*W)=0:=by
   have z:du a1 a2 b1 b2 c1 c2 d1 d2*(X-p1*W)=(b1-a1)*((d2-c2)*(X-p1*W))-(d1-c1)*((b2-a2)*(X-p1*W)):=by unfold du;grind
   rw[z,←m1,←m2,Int.mul_left_comm];omega
  have z2:du a1 a2 b1 b2 c1 c2 d1 d2*(Y-p2*W)=0:=by
   have z:du a1 a2 b1 b2 c1 c2 d1 d2*(Y-p2*W)=(d2-c2)*((b1-a1)*(Y-p2*W))-(b2-a2)*((d1-c1)*(Y-p2*W)):=by unfold du;grind
   rw[z,m1,m2,Int.mul_left_comm];omega
  have jP:=(ug.1 jq).resolve_left hw;have mD:=(ug.1 z2).resolve_left hw;omega
def z6(S:Int)(p q x:Int×Int):Prop:=Met (2*(S*p.1)-(2*(S*x.1)-S)) (2*(S*q.1)-(2*(S*x.1)-S)) (2*(S*p.2)-(2*(S*x.2)-S)) (2*(S*q.2)-(2*(S*x.2)-S)) (2*(S*x.1)+S-2*(S*p.1)) (2*(S*x.1)+S-2*(S*q.1)) (2*(S*x.2)+S-2*(S*p.2)) (2*(S*x.2)+S-2*(S*q.2)) true false
def DC(S X Y W:Int)(x:Int×Int):Prop:=((2*(S*x.1)-S)*W≤2*X∧2*X<(2*(S*x.1)+S)*W)∧(2*(S*x.2)-S)*W≤2*Y∧2*Y<(2*(S*x.2)+S)*W
abbrev Nd(S:Int)(x p q:Int×Int):Prop:=dJ (S*x.1) (S*x.2) (S*p.1) (S*p.2) (S*q.1) (S*q.2)
theorem SV(S:Int)(p q:Int×Int):Nd S p p q:=by
 refine⟨Ix ..,?_⟩;unfold tL hK hJ
 split <;> split <;> split <;> split <;> omega
theorem SW(S:Int)(p q:Int×Int):Nd S q p q:=by
 refine⟨OC ..,?_⟩;unfold tL hK hJ
 split <;> split <;> split <;> split <;> omega
theorem agn{S:Int}(hS:0<S){p q fJ cI x:Int×Int}{X Y W W':Int}(e:jn (S*p.1) (S*p.2) (S*q.1) (S*q.2) (S*fJ.1) (S*fJ.2) (S*cI.1) (S*cI.2)=kd X W Y W')(ab:DC S X Y W x)(h1:z6 S p q x→x=p∨x=q)(h2:z6 S fJ cI x→x=fJ∨x=cI) :
  (x=p∨x=q)∧(x=fJ∨x=cI)∧X=S*x.1*W∧Y=S*x.2*W:=by
 obtain⟨_,gj,g1,g2,g3⟩:=Cf e;obtain⟨⟨b1,b2⟩,dK,df⟩:=ab;have bD:=h1 (TU gj g1 b1 dK b2 df);have cm:=h2 (TU gj g2 b1 dK b2 df);refine⟨bD,cm,g3 _ _ ?_ ?_⟩
 ·rcases bD with rfl|rfl
  ·exact SV ..
  ·exact SW ..
 ·rcases cm with rfl|rfl
  ·exact SV ..
  ·exact SW ..
end Go.Proofs.YtklpfooafbjnpaaGreat
namespace Go.Proofs.YtklpfooafbjnpaaGreat.bH
abbrev hU:=Int×Int
abbrev R1(S:Int)(l m:hU×hU):fY:=jn (S*l.1.1) (S*l.1.2) (S*l.2.1) (S*l.2.2) (S*m.1.1) (S*m.1.2) (S*m.2.1) (S*m.2.2)
def Aj(l m:hU×hU):Prop:=l.1=m.1∨l.1=m.2∨l.2=m.1∨l.2=m.2
structure Ag (S:Int) (o:dm hU):Prop where
 pos:0<S
 adi:∀p q x,o.Fi p q x=true→z6 S p q x
 Qf:∀p q x,o.gG p→o.gG q→o.gG x→z6 S p q x→o.Fi p q x=true
 OD:∀l m x,o.cut l m=some x→¬Aj l m∧∃X Y W W',R1 S l m=kd X W Y W'∧DC S X Y W x
 Z5:∀l m,o.gG l.1→o.gG l.2→o.gG m.1→o.gG m.2→o.cut l m=none→(R1 S l m).k=1→Aj l m
theorem Ag.own{S:Int}{o:dm hU}(h:Ag S o){hot:List hU}(au:∀y∈hot,o.gG y){p q x:hU}(hp:p∈hot)(aj:q∈hot)(ab:x∈hot)(hs:s7 o hot p q)(hm:z6 S p q x):x=p∨x=q:=by
 have h1:=hs x ab;have h2:=h.Qf p q x (au _ hp) (au _ aj) (au _ ab) hm;unfold kv at h1;rw[h2,Bool.and_true,Bool.and_eq_false_iff] at h1;rcases h1 with h1|h1
 ·exact .inl (by simpa using h1)
 ·exact .inr (by simpa using h1)
theorem Ag.Z9{S:Int}{o:dm hU}(h:Ag S o)(hot:List hU)(p q fJ cI x:hU)(au:∀y∈hot,o.gG y)(hp:p∈hot)(aj:q∈hot)(mT:fJ∈hot)(lR:cI∈hot)(hs:s7 o hot p q)(Fz:s7 o hot fJ cI)(ak:o.cut (p,q) (fJ,cI)=some x):x∉hot:=fun ab=>by
 obtain⟨aA,X,Y,W,W',e,j5⟩:=h.OD _ _ _ ak;obtain⟨g1,g2,_⟩:=agn h.pos e j5 (h.own au hp aj ab hs) (h.own au mT lR ab Fz);refine aA ?_;unfold Aj;rcases g1 with rfl|rfl <;> rcases g2 with g2|g2
 ·exact .inl g2
 ·exact .inr (.inl g2)
 ·exact .inr (.inr (.inl g2))
 ·exact .inr (.inr (.inr g2))
end Go.Proofs.YtklpfooafbjnpaaGreat.bH
namespace Go.Proofs.YtklpfooafbjnpaaGreat
def fV(S X W:Int):Int:=(2*X+S*W)/(2*(S*W))
theorem Gz{S W:Int}(hS:0<S)(gj:0<W)(X:Int):(2*(S*fV S X W)-S)*W≤2*X∧2*X<(2*(S*fV S X W)+S)*W:=by
 have aca:=Int.mul_pos hS gj;unfold fV;have h1:=rv (2*X+S*W) (2*(S*W));have h2:=pC (2*X+S*W) (show 2*(S*W)≠0 by omega);have ar:=o4 (2*X+S*W) (show 0<2*(S*W) by omega);generalize (2*X+S*W)/(2*(S*W))=g at *;generalize (2*X+S*W) % (2*(S*W))=m at *;have aH:(2*(S*g)-S)*W=2*(S*W)*g-S*W:=by grind
 have aN:(2*(S*g)+S)*W=2*(S*W)*g+S*W:=by grind
 omega
theorem aev{S X Y W:Int}(hS:0<S)(gj:0<W):DC S X Y W (fV S X W,fV S Y W):=⟨Gz hS gj X,Gz hS gj Y⟩
theorem T0{S X W n d p q g:Int}(hS:0<S)(gj:0<W)(hd:0<d)(aA:0≤n∧n≤d)(e:X*d=W*(S*p*(d-n)+S*q*n))(h1:(2*(S*g)-S)*W≤2*X)(h2:2*X<(2*(S*g)+S)*W):(p≤q→p≤g∧g≤q)∧(q≤p→q≤g∧g≤p):=by
 have aca:=Int.mul_pos hS gj
 have af9:∀ {b:Int},b≤p→b≤q→S*W*b≤X:=fun{b} bD cm=>by
  have m1:=hP (show 0≤S*W by omega) (hP (show 0≤p-b by omega) (show 0≤d-n by omega));have m2:=hP (show 0≤S*W by omega) (hP (show 0≤q-b by omega) aA.1);have e':(X-S*W*b)*d=S*W*((p-b)*(d-n))+S*W*((q-b)*n):=by grind
  have:=Me (v:=X-S*W*b) hd (by rw[e'];omega);omega
 have adg:∀ {b:Int},p≤b→q≤b→X≤S*W*b:=fun{b} bD cm=>by
  have m1:=hP (show 0≤S*W by omega) (hP (show 0≤b-p by omega) (show 0≤d-n by omega));have m2:=hP (show 0≤S*W by omega) (hP (show 0≤b-q by omega) aA.1);have e':(S*W*b-X)*d=S*W*((b-p)*(d-n))+S*W*((b-q)*n):=by grind
  have:=Me (v:=S*W*b-X) hd (by rw[e'];omega);omega
 have low:∀ {b:Int},b≤p→b≤q→b≤g:=fun{b} bD cm=>by
  have hn:=af9 bD cm;refine Int.not_lt.1 fun a8 => ?_;have m:=sM (show g+1≤b by omega) (show 0≤S*W by omega);have aN:(2*(S*g)+S)*W=2*(S*W*(g+1))-S*W:=by grind
  omega
 have high:∀ {b:Int},p≤b→q≤b→g≤b:=fun{b} bD cm=>by
  have hn:=adg bD cm;refine Int.not_lt.1 fun a8 => ?_;have m:=sM (show b+1≤g by omega) (show 0≤S*W by omega);have aH:(2*(S*g)-S)*W=2*(S*W*g)-S*W:=by grind
  have b6:S*W*(b+1)=S*W*b+S*W:=by grind
  omega
 exact⟨fun h=>⟨low (mx _) h,high h (mx _)⟩,fun h=>⟨low h (mx _),high (mx _) h⟩⟩
def e9(lt:Int×Int→Int×Int→Bool):List (Int×Int)→List (Int×Int)→List (Int×Int)
 | [],b=>b
 | x::a,[]=>x::a
 | x::a,y::b=>if lt y x then y::e9 lt (x::a) b else x::e9 lt a (y::b)
termination_by a b=>a.length+b.length
theorem La(lt:Int×Int→Int×Int→Bool)(a:List (Int×Int)):e9 lt a []=a:=by cases a <;> simp[e9]
theorem agv(lt:Int×Int→Int×Int→Bool)(a:List (Int×Int)):e9 lt [] a=a:=by simp[e9]
theorem K9(lt:Int×Int→Int×Int→Bool):∀a b,(e9 lt a b).length=a.length+b.length:=by
 intro a b
 induction a,b using e9.induct lt with
 | case1 b=>simp[e9]
 | case2 x a=>simp[e9]
 | case3 x a y b h cf=>rw[e9,if_pos h,hb,cf];simp;omega
 | case4 x a y b h cf=>rw[e9,if_neg h,hb,cf];simp;omega
def jN(lt:Int×Int→Int×Int→Bool)(l:List (Int×Int)):List (Int×Int) :=
 if h:l.length<2 then l else e9 lt (jN lt (l.take (l.length/2))) (jN lt (l.drop (l.length/2)))
termination_by l.length
decreasing_by all_goals (simp;omega)
theorem G4(lt:Int×Int→Int×Int→Bool):∀(N:Nat) (l:List (Int×Int)),l.length≤N→(jN lt l).length=l.length
 | 0,l,h=>by rw[jN,dif_pos (by omega)]
 | N+1,l,h=>by
  rw[jN]
  split
  ·rfl
  ·rw[K9,G4 lt N _ (by simp;omega),G4 lt N _ (by simp;omega)];simp;omega
end Go.Proofs.YtklpfooafbjnpaaGreat
namespace Go.Proofs.YtklpfooafbjnpaaGreat
open Go.RowKit
def bY:List (Int×Int)→List AC
 | []=>[]
 | p::l => .c (.int .i64 p.1) :: .c (.int .i64 p.2)::bY l
abbrev fF(l:List (Int×Int)):ag:=cF 2 l.length (bY l)
theorem Rj:∀(l:List (Int×Int)) (i:Nat) (p:Int×Int),l[i]?=some p→((bY l).drop (i*2)).take 2=[.c (.int .i64 p.1),.c (.int .i64 p.2)]
 | [],i,p,h=>by simp at h
 | q::l,0,p,h=>by simp at h;subst h;simp[bY]
 | q::l,i+1,p,h=>by
  have e:(i+1)*2=i*2+1+1:=by omega
  rw[e];simp only[bY,List.drop_succ_cons];exact Rj l i p (by simpa using h)
theorem oO{l:List (Int×Int)}{j:Int}{i:Nat}{x y:Int}(af:j=i)(h:l[i]?=some (x,y)):((bY l).drop (j.toNat*2)).take 2=[.c (.int .i64 x),.c (.int .i64 y)]:=by
 subst af;exact Rj l i (x,y) h
theorem ol:∀(l:List (Int×Int)),(bY l).length=l.length*2
 | []=>rfl
 | p::l=>by simp only[bY,hb,ol l];omega
theorem tN:∀(l m:List (Int×Int)),bY (l++m)=bY l++bY m
 | [],_=>rfl
 | p::l,m=>by simp only[uc,bY,tN l m]
theorem tO:∀(l:List (Int×Int)),(bY l).all AC.aW=true
 | []=>rfl
 | p::l=>by simp only[bY,jI,tO l];rfl
def cw(l:List Int):List AC:=l.map fun x => .c (.int .i64 x)
abbrev iI(l:List Int):ag:=cF 1 l.length (cw l)
theorem oN{l:List Int}{j:Int}{i:Nat}{x:Int}(af:j=i)(h:l[i]?=some x):((cw l).drop (j.toNat*1)).take 1=[.c (.int .i64 x)]:=by
 subst af;have hi:=(bq.1 h).1;rw[kI,Nat.mul_one,jK (by simpa [cw] using hi)];have:l[i]=x:=(bq.1 h).2;simp[cw,this]
theorem BZ(l m:List Int):cw (l++m)=cw l++cw m:=by simp[cw]
instance anW:nn ah 51 3 1 8:=⟨by kernel_rfl⟩
def Aq(x y z w:Int)(fx fy:Bool):Bool:=if x<z then !fx else if z<x then fx else if y<w then !fy else decide (w<y)&&fy
end Go.Proofs.YtklpfooafbjnpaaGreat
namespace Go.Proofs.YtklpfooafbjnpaaGreat
abbrev aq:=Int×Int
def ea(fx fy:Bool)(p q:aq):Bool:=Aq p.1 p.2 q.1 q.2 fx fy
theorem Ao{fx fy:Bool}{p q:aq}:ea fx fy p q=true↔(if fx then q.1<p.1 else p.1<q.1)∨(p.1=q.1∧if fy then q.2<p.2 else p.2<q.2):=by
 unfold ea Aq
 by_cases h1:p.1<q.1
 ·cases fx <;> simp[h1] <;> omega
 ·by_cases h2:q.1<p.1
  ·cases fx <;> simp[h1,h2] <;> omega
  ·have e:p.1=q.1:=by omega
   by_cases ar:p.2<q.2
   ·cases fx <;> cases fy <;> simp[h1,h2,ar,e] <;> omega
   ·cases fx <;> cases fy <;> simp[h1,h2,ar,e] <;> omega
theorem Ap{fx fy:Bool}{p q r:aq}(h1:ea fx fy p q=true)(h2:ea fx fy q r=true):ea fx fy p r=true:=by
 rw[Ao] at *;cases fx <;> cases fy <;> simp at * <;> omega
theorem NA{fx fy:Bool}{p:aq}:ea fx fy p p=false:=by
 cases h:ea fx fy p p with
 | false=>rfl
 | true=>rw[Ao] at h;cases fx <;> cases fy <;> simp at h
theorem Nz{fx fy:Bool}{p q:aq}(h1:ea fx fy p q=true):ea fx fy q p=false:=by
 cases h:ea fx fy q p with
 | false=>rfl
 | true=>have:=Ap h1 h;rw[NA] at this;cases this
theorem H4{fx fy:Bool}{p q:aq}(h:p≠q):ea fx fy p q=true∨ea fx fy q p=true:=by
 rw[Ao,Ao]
 have:p.1≠q.1∨p.2≠q.2:=by
  by_cases h1:p.1=q.1
  ·exact .inr fun h2=>h (Prod.ext h1 h2)
  ·exact .inl h1
 cases fx <;> cases fy <;> simp <;> omega
def lc(fx fy:Bool)(l:List aq):Prop:=l.Pairwise fun p q=>ea fx fy p q=true
theorem NU{fx fy:Bool}:∀ {l m:List aq},lc fx fy l→lc fx fy m→l.Perm m→l=m
 | [],m,_,_,hp=>by have:=hp.nil_eq;exact this
 | p::l,[],_,_,hp=>by have:=hp.length_eq;simp at this
 | p::l,q::m,al,hm,hp=>by
  have h1:=kh.1 al;have h2:=kh.1 hm
  have e:p=q:=by
   rcases fg.1 (hp.mem_iff.1 (hc ..):p∈q::m) with h|h
   ·exact h
   ·rcases fg.1 (hp.mem_iff.2 (hc ..):q∈p::l) with aJ|aJ
    ·exact aJ.symm
    ·have a:=h1.1 q aJ;have b:=h2.1 p h;rw[Nz a] at b;cases b
  subst e;rw[NU h1.2 h2.2 (List.perm_cons p |>.1 hp)]
def nF(fx fy:Bool)(q:aq):List aq→List aq
 | []=>[q]
 | p::l=>if ea fx fy q p then q::p::l else p::nF fx fy q l
theorem B0(fx fy:Bool)(q:aq):∀l,(nF fx fy q l).Perm (q::l)
 | [] => .refl _
 | p::l=>by
  unfold nF
  split
  ·exact .refl _
  ·exact((B0 fx fy q l).cons p).trans (.swap q p l)
theorem Re{fx fy:Bool}{q:aq}:∀ {l:List aq},lc fx fy l→q∉l→lc fx fy (nF fx fy q l)
 | [],_,_=>by unfold nF lc;simp
 | p::l,h,aA=>by
  have ak:=kh.1 h;unfold nF
  split
  ·rename_i aj;refine kh.2 ⟨fun r ao => ?_,h⟩;rcases fg.1 ao with rfl|ao
   ·exact aj
   ·exact Ap aj (ak.1 r ao)
  ·rename_i aj;refine kh.2 ⟨fun r ao => ?_,Re ak.2 fun aJ=>aA (kH _ aJ)⟩;rcases fg.1 ((B0 fx fy q l).mem_iff.1 ao) with rfl|ao
   ·rcases H4 (fx:=fx) (fy:=fy) (p:=p) (q:=r) (fun e=>aA (by rw[e];exact hc ..)) with aJ|aJ
    ·exact aJ
    ·exact absurd aJ aj
   ·exact ak.1 r ao
def sV(fx fy:Bool)(f:aq→Bool)(l:List aq):List aq:=l.foldl (fun out q=>if f q then nF fx fy q out else out) []
theorem G2(fx fy:Bool)(f:aq→Bool)(l:List aq):(sV fx fy f l).Perm (l.filter f):=by
 have key:∀(l out:List aq),(l.foldl (fun out q=>if f q then nF fx fy q out else out) out).Perm (out++l.filter f):=by
  intro l
  induction l with
  | nil=>intro out;simp
  | cons q l cf =>
   intro out;rw[ub,List.filter_cons]
   by_cases aj:f q=true
   ·rw[if_pos aj,if_pos aj];refine(cf _).trans ?_;refine((B0 fx fy q out).append_right _).trans ?_;exact List.perm_middle.symm
   ·rw[if_neg aj,if_neg aj];exact cf out
 exact key l []
theorem alh(fx fy:Bool)(f:aq→Bool)(l:List aq):(sV fx fy f l).length≤l.length:=by
 rw[(G2 fx fy f l).length_eq];exact List.length_filter_le _ _
theorem alf(fx fy:Bool)(f:aq→Bool){l:List aq}(aA:l.Nodup):lc fx fy (sV fx fy f l):=by
 have key:∀(l out:List aq),lc fx fy out→(out++l).Nodup→lc fx fy (l.foldl (fun out q=>if f q then nF fx fy q out else out) out):=by
  intro l
  induction l with
  | nil=>intro out h _;exact h
  | cons q l cf =>
   intro out h hd;have hm:=List.nodup_append.1 hd;have aj:q∉out:=fun j5=>hm.2.2 q j5 q (hc ..) rfl;rw[ub]
   by_cases aw:f q=true
   ·rw[if_pos aw];refine cf _ (Re h aj) ?_;have hp:(nF fx fy q out++l).Perm (out++q::l):=((B0 fx fy q out).append_right l).trans List.perm_middle.symm;exact hp.nodup_iff.2 hd
   ·rw[if_neg aw];refine cf _ h ?_;exact hd.sublist (List.Sublist.append_left (List.sublist_cons_self q l) out)
 exact key l [] List.Pairwise.nil (by simpa using aA)
theorem Lb(lt:aq→aq→Bool):∀a b,(e9 lt a b).Perm (a++b):=by
 intro a b
 induction a,b using e9.induct lt with
 | case1 b=>simp[e9]
 | case2 x a=>simp[e9]
 | case3 x a y b h cf =>
  rw[e9,if_pos h];exact(cf.cons y).trans List.perm_middle.symm
 | case4 x a y b h cf =>
  rw[e9,if_neg h];exact cf.cons x
theorem agu{fx fy:Bool}:∀a b,lc fx fy a→lc fx fy b→(a++b).Nodup→lc fx fy (e9 (ea fx fy) a b):=by
 intro a b
 induction a,b using e9.induct (ea fx fy) with
 | case1 b=>intro _ h _;simpa [e9] using h
 | case2 x a=>intro h _ _;simpa [e9] using h
 | case3 x a y b h cf =>
  intro aX aa hd;rw[e9,if_pos h];have E3:=kh.1 aa;have dx:=kh.1 aX;have tz:(x::a++b).Nodup:=hd.sublist (List.Sublist.append_left (List.sublist_cons_self y b) (x::a));refine kh.2 ⟨fun r ao => ?_,cf aX E3.2 tz⟩;rcases kf.1 ((Lb _ _ _).mem_iff.1 ao) with ao|ao
  ·rcases fg.1 ao with rfl|ao
   ·exact h
   ·exact Ap h (dx.1 r ao)
  ·exact E3.1 r ao
 | case4 x a y b h cf =>
  intro aX aa hd;rw[e9,if_neg h];have E3:=kh.1 aa;have dx:=kh.1 aX;have mq:x≠y:=fun e=>(List.nodup_append.1 hd).2.2 x (hc ..) y (hc ..) e;have a8:ea fx fy x y=true:=(H4 mq).resolve_right h;have tz:(a++y::b).Nodup:=(List.nodup_cons.1 hd).2;refine kh.2 ⟨fun r ao => ?_,cf dx.2 aa tz⟩;rcases kf.1 ((Lb _ _ _).mem_iff.1 ao) with ao|ao
  ·exact dx.1 r ao
  ·rcases fg.1 ao with rfl|ao
   ·exact a8
   ·exact Ap a8 (E3.1 r ao)
theorem C3(lt:aq→aq→Bool):∀(N:Nat) (l:List aq),l.length≤N→(jN lt l).Perm l
 | N,l,h=>by
  by_cases q:l.length<2
  ·rw[jN,dif_pos q]
  ·match N with
   | 0=>omega
   | N+1 =>
    rw[jN,dif_neg q];refine(Lb lt _ _).trans ?_;refine((C3 lt N _ (by simp;omega)).append (C3 lt N _ (by simp;omega))).trans ?_;rw[kg]
theorem Mp{fx fy:Bool}:∀(N:Nat) (l:List aq),l.length≤N→l.Nodup→lc fx fy (jN (ea fx fy) l)
 | N,l,h,hd=>by
  by_cases q:l.length<2
  ·rw[jN,dif_pos q]
   match l,q with
   | [],_=>exact .nil
   | [x],_=>unfold lc;simp
   | x::y::l,q=>exact absurd q (by simp)
  ·match N with
   | 0=>omega
   | N+1 =>
    rw[jN,dif_neg q];refine agu _ _ (Mp N _ (by simp;omega) (hd.sublist (List.take_sublist _ _))) (Mp N _ (by simp;omega) (hd.sublist (List.drop_sublist _ _))) ?_;have hp:=(C3 (ea fx fy) N (l.take (l.length/2)) (by simp;omega)).append (C3 (ea fx fy) N (l.drop (l.length/2)) (by simp;omega));rw[kg] at hp;exact hp.nodup_iff.2 hd
theorem alv{fx fy:Bool}{f:aq→Bool}{l m:List aq}(aA:l.Nodup)(hp:m.Perm (l.filter f)):jN (ea fx fy) m=sV fx fy f l :=
 NU (Mp _ m (cE _) (hp.nodup_iff.2 (aA.sublist List.filter_sublist))) (alf fx fy f aA) ((C3 _ _ m (cE _)).trans (hp.trans (G2 fx fy f l).symm))
end Go.Proofs.YtklpfooafbjnpaaGreat
namespace Go.Proofs.YtklpfooafbjnpaaGreat
open Go.RowKit
def C6(P:Program)(r9:TypeId)(agg:Bool)(n:Nat):Bool:=match lD P r9 with
 | some (b,m)=>Bool.beq b agg&&Nat.beq m n
 | none=>false
where Bool.beq:Bool→Bool→Bool
 | true,true=>true
 | false,false=>true
 | _,_=>false
def I5(P:Program)(ty i off:Nat)(agg:Bool)(n:Nat):Bool:=match P.underlying ty with
 | some (.struct br)=>match br[i]? with
  | some f=>Nat.beq f.offset off&&C6 P f.type agg n
  | none=>false
 | _=>false
def KC(P:Program)(ty len:Nat)(agg:Bool)(n:Nat):Bool:=match P.underlying ty with
 | some (.array l e)=>Nat.beq l len&&C6 P e agg n&&(match P.info? e with|some t=>Nat.beq t.size n|none=>false)
 | _=>false
class Hz (P:Program) (ty i:Nat) (off:outParam Nat) (agg:outParam Bool) (n:outParam Nat):Prop where
 h:I5 P ty i off agg n=true
class HF (P:Program) (ty:Nat) (len:outParam Nat) (agg:outParam Bool) (n:outParam Nat):Prop where
 h:KC P ty len agg n=true
section
variable{P:Program}
theorem VP{r9 n:Nat}{agg:Bool}(h:C6 P r9 agg n=true):lD P r9=some (agg,n):=by
 unfold C6 at h
 split at h
 ·rename_i b m aa;rw[eg] at h;have e:=gn h.2;have aN:b=agg:=by cases b <;> cases agg <;> simp[C6.Bool.beq] at h ⊢
  rw[aa,e,aN]
 ·cases h
theorem UZ{r9 n off:Nat}{cs:List Value}{v:Value}{W:World}(h:lD P r9=some (false,n))(hv:cs[off]?=some v):(part r9 cs.toArray off).run P W = .ok v W:=by
 unfold lD at h;cases hu:P.underlying r9 with
 | none=>rw[hu] at h;cases h
 | some D =>
  have h1:(isAgg r9).run P W = .ok false W:=by
   unfold isAgg;simp only[Sem.run_bind,run_underlying hu,Result.andThen_ok];cases hi:P.info? r9 with
   | none=>rw[hu,hi] at h;cases D <;> first|rfl|(cases h)
   | some eJ=>rw[hu,hi] at h;cases D <;> first|rfl|(cases h)
  unfold part;simp only[Sem.run_bind,h1,Result.andThen_ok,pz,if_false,List.getElem?_toArray,hv,Sem.run_pure]
variable{s:aB}{ops:Array Oper}{K:aB→Prop}{rest:List Oper}{ty:Nat}{pos:String}{after:Array Edge}{guard:Option (Nat×Bool)}{d:Nat}
theorem aa1{dl i off n:Nat}{agg:Bool}(h:I5 P dl i off agg n=true):∃br f,P.underlying dl=some (.struct br)∧br[i]?=some f∧f.offset=off∧lD P f.type=some (agg,n):=by
 unfold I5 at h
 split at h
 ·rename_i br hu
  split at h
  ·rename_i f aw;rw[eg] at h;exact⟨br,f,hu,aw,gn h.1,VP h.2⟩
  ·cases h
 ·cases h
theorem aeF{dl len n:Nat}{agg:Bool}(h:KC P dl len agg n=true):∃e t,P.underlying dl=some (.array len e)∧P.info? e=some t∧t.size=n∧lD P e=some (agg,n):=by
 unfold KC at h
 split at h
 ·rename_i l e hu;simp only[eg] at h;obtain⟨⟨h1,h2⟩,ar⟩:=h
  split at ar
  ·rename_i t aC;exact⟨e,t,by rw[hu,gn h1],aC,gn ar,VP h2⟩
  ·cases ar
 ·cases h
theorem Yv{x:Operand}{dl i off n:Nat}{xs:List AC}{y:AC} [F:Hz P dl i off false n](hw:want ops ⟨some d,.field dl x i,ty,pos,after,guard⟩ s=some true)(ab:s.look x=some (.w (.agg xs)))(ak:xs[off]?=some y)(hd:Nat.blt d s.n=true)(h:bm P ops K rest (s.put (some d) (.w (.one y)))):bm P ops K (⟨some d,.field dl x i,ty,pos,after,guard⟩::rest) s:=by
 refine gb hw ⟨fun _ _ h=>(by cases h),fun z aS => ?_,fun U ad W env he => ?_,fun j af=>⟨x,by simp[Op.operands],_,ab,?_⟩⟩ hd h
 ·simp[Op.operands] at aS;subst aS;exact⟨_,ab⟩
 ·obtain⟨vs,aH,al⟩:=he x (by simp[Op.operands]) _ ab;obtain⟨br,f,hu,aw,aD,eS⟩:=aa1 F.h;have a8:off<vs.length:=by rw[←al.1];exact(bq.1 ak).1
  refine⟨vs[off],?_,al.2 off y _ ak (bB a8)⟩;simp only[execOp,Instr.field,aH,Sem.run_bind,run_underlying hu,Result.andThen_ok,aw,asAgg,Sem.run_pure,aD,UZ eS (bB a8)]
 ·obtain⟨z,aS,BV⟩:=af;simp[bF.cells] at aS;subst aS;exact⟨z,cM ak,BV⟩
theorem NK{x y:Operand}{dl len n:Nat}{gI:IntKind}{i:Int}{xs:List AC}{z:AC} [A:HF P dl len false n](hw:want ops ⟨some d,.index dl x y,ty,pos,after,guard⟩ s=some true)(ab:s.look x=some (.w (.agg xs)))(ai:s.look y=some (aQ (.int gI i)))(aE:0≤i)(h1:i<len)(ak:xs[i.toNat*n]?=some z)(hd:Nat.blt d s.n=true)(h:bm P ops K rest (s.put (some d) (.w (.one z)))):bm P ops K (⟨some d,.index dl x y,ty,pos,after,guard⟩::rest) s:=by
 refine gb hw ⟨fun _ _ h=>(by cases h),fun z aS => ?_,fun U ad W env he => ?_,fun j af=>⟨x,by simp[Op.operands],_,ab,?_⟩⟩ hd h
 ·simp[Op.operands] at aS;rcases aS with rfl|rfl
  ·exact⟨_,ab⟩
  ·exact⟨_,ai⟩
 ·obtain⟨vs,aH,al⟩:=he x (by simp[Op.operands]) _ ab;have hi:env y = .int gI i:=(he y (by simp[Op.operands]) _ ai).1;obtain⟨e,t,hu,aC,hs,eS⟩:=aeF A.h;have a8:i.toNat*n<vs.length:=by rw[←al.1];exact(bq.1 ak).1
  refine⟨vs[i.toNat*n],?_,al.2 _ z _ ak (bB a8)⟩;simp only[execOp,Instr.index,aH,hi,asIntOf,Sem.run_bind,Sem.run_pure,Result.andThen_ok,run_underlying hu,if_pos (And.intro aE h1),ig aC,hs,UZ eS (bB a8)]
 ·obtain⟨u,hu,ad6⟩:=af;simp[bF.cells] at hu;subst hu;exact⟨u,cM ak,ad6⟩
theorem Yq{dl dN:Nat}{x y:Operand}{a b:Bool}(hw:want ops ⟨some d,.binOp .eql dl x y dN,ty,pos,after,guard⟩ s=some true)(ab:s.look x=some (bl a))(ai:s.look y=some (bl b))(hd:Nat.blt d s.n=true)(hu:P.underlying dl=some .bool)(h:bm P ops K rest (s.put (some d) (bl (a==b)))):bm P ops K (⟨some d,.binOp .eql dl x y dN,ty,pos,after,guard⟩::rest) s :=
 wm hw ab ai rfl rfl (fun W=>rfl) (fun W=>run_eql_bool W dl a b hu) rfl hd h
end
theorem TE{P:Program}{f:FuncId}{args n2:List ag}{r:ag}(h:aO P f args r)(fA:n2.all ag.aW=true)(al:n2.length=args.length)(hle:∀(i:Nat) x y,n2[i]?=some x→args[i]?=some y→x.aU y):aO P f n2 r :=
 ⟨fun x ab=>ag.c8 (bZ.1 fA x ab),h.cq,fun U W vs cO=>h.call U W vs ⟨by rw[←al];exact cO.1,fun i y v ai hv=>by
  have hi:i<n2.length:=by rw[al];exact(bq.1 ai).1
  exact hle i _ y (bB hi) ai U id W v (cO.2 i _ v (bB hi) hv)⟩⟩
abbrev MF:ag:=aQ (.slice none 0 0)
theorem nil_le(z:Nat):MF.aU (cF z 0 []):=fun U ad W v h=>by
 obtain⟨rfl,_⟩:=h;exact⟨⟨none,0,rfl,cE _,by simp,fun h=>absurd h (sJ _)⟩,fun b ⟨c,a,q,aA,_⟩=>absurd aA (sJ _)⟩
end Go.Proofs.YtklpfooafbjnpaaGreat
namespace Go.Proofs.YtklpfooafbjnpaaGreat
open Go.RowKit
end Go.Proofs.YtklpfooafbjnpaaGreat
namespace Go.Proofs.YtklpfooafbjnpaaGreat
open Go.RowKit
end Go.Proofs.YtklpfooafbjnpaaGreat
namespace Go.Proofs.YtklpfooafbjnpaaGreat
open Go.RowKit
theorem ajk(j:Nat):(0:Int)<2^j∧(2:Int)^j<10000^(j+1):=by
 induction j with
 | zero=>decide
 | succ j cf=>rw[Int.pow_succ,Int.pow_succ (10000:Int) (j+1)];omega
end Go.Proofs.YtklpfooafbjnpaaGreat
namespace Go.Proofs
open Go.Shelf
def Tryz.afS:Go.Shelf.Ren:=⟨fun|134=>339|129=>334|n=>n,fun|53=>178|3=>3|4=>4|46=>288|5=>5|9=>9|n=>n,fun|n=>n⟩
theorem Tryz.afR:Go.Proofs.Lays.n134 ah Tryz.afS:={
 mixed:=by kernel_rfl
 f129:=Tryz.func334.trans (congrArg some (by kernel_rfl))
 f134:=Tryz.func339.trans (congrArg some (by kernel_rfl))
 t3:=Tryz.underlying3
 a3:=Tryz.isAgg3
 z3:=Tryz.sizeOf3
 v3:=Tryz.zeroValue3
 t4:=Tryz.underlying4
 a4:=Tryz.isAgg4
 z4:=Tryz.sizeOf4
 v4:=Tryz.zeroValue4
 t5:=Tryz.underlying5
 a5:=Tryz.isAgg5
 z5:=Tryz.sizeOf5
 v5:=Tryz.zeroValue5
 t9:=Tryz.underlying9
 a9:=Tryz.isAgg9
 z9:=Tryz.sizeOf9
 v9:=Tryz.zeroValue9
 t46:=Tryz.underlying288
 a46:=Tryz.isAgg288
 z46:=Tryz.sizeOf288
 v46:=Tryz.zeroValue288
 t53:=Tryz.underlying178
 a53:=Tryz.isAgg178
 z53:=Tryz.sizeOf178
 v53:=Tryz.zeroValue178}
theorem Tryz.bits_LeadingZeros64(x:Int)(w:World)(aE:0≤x)(h1:x≤18446744073709551615) :
  Calls ah 339 #[.int .u64 x] w fun e w'=>e = .returned (.int .i64 (64-(Lib.bitLen x.toNat:Int)))∧w'=w:=Any.bits_LeadingZeros64 Tryz.afR x w aE h1
def Tryz.afQ:Go.Shelf.Ren:=⟨fun|129=>334|n=>n,fun|53=>178|3=>3|4=>4|46=>288|5=>5|9=>9|n=>n,fun|n=>n⟩
theorem Tryz.afP:Go.Proofs.Lays.n129 ah Tryz.afQ:={
 mixed:=by kernel_rfl
 f129:=Tryz.func334.trans (congrArg some (by kernel_rfl))
 t3:=Tryz.underlying3
 a3:=Tryz.isAgg3
 z3:=Tryz.sizeOf3
 v3:=Tryz.zeroValue3
 t4:=Tryz.underlying4
 a4:=Tryz.isAgg4
 z4:=Tryz.sizeOf4
 v4:=Tryz.zeroValue4
 t5:=Tryz.underlying5
 a5:=Tryz.isAgg5
 z5:=Tryz.sizeOf5
 v5:=Tryz.zeroValue5
 t9:=Tryz.underlying9
 a9:=Tryz.isAgg9
 z9:=Tryz.sizeOf9
 v9:=Tryz.zeroValue9
 t46:=Tryz.underlying288
 a46:=Tryz.isAgg288
 z46:=Tryz.sizeOf288
 v46:=Tryz.zeroValue288
 t53:=Tryz.underlying178
 a53:=Tryz.isAgg178
 z53:=Tryz.sizeOf178
 v53:=Tryz.zeroValue178}
theorem Tryz.bits_Len64(x:Int)(w:World)(aE:0≤x)(h1:x≤18446744073709551615) :
  Calls ah 334 #[.int .u64 x] w fun e w'=>e = .returned (.int .i64 (Lib.bitLen x.toNat))∧w'=w:=Any.bits_Len64 Tryz.afP x w aE h1
def Tryz.afU:Go.Shelf.Ren:=⟨fun|264=>292|n=>n,fun|53=>178|46=>288|n=>n,fun|n=>n⟩
theorem Tryz.afT:Go.Proofs.Lays.n264 ah Tryz.afU:={
 mixed:=by kernel_rfl
 f264:=Tryz.func292.trans (congrArg some (by kernel_rfl))
 t46:=Tryz.underlying288
 a46:=Tryz.isAgg288
 z46:=Tryz.sizeOf288
 v46:=Tryz.zeroValue288
 t53:=Tryz.underlying178
 a53:=Tryz.isAgg178
 z53:=Tryz.sizeOf178
 v53:=Tryz.zeroValue178}
open Go.RowKit Go.Lib in
theorem Tryz.bits_Mul64(x y:Nat)(ab:x<18446744073709551616)(ai:y<18446744073709551616)(w:World) :
  Calls ah 292 #[.int .u64 x,.int .u64 y] w fun e w'=>e = .returned (.tuple #[.int .u64 ((x*y/18446744073709551616:Nat):Int),.int .u64 ((x*y % 18446744073709551616:Nat):Int)])∧w'=w:=Any.bits_Mul64 Tryz.afT x y ab ai w
end Go.Proofs
