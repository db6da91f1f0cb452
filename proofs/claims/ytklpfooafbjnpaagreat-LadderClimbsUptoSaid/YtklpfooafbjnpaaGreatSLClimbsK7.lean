/-
  My own texts,without what this claim does not need. My own text.
-/
import Derived.Test.YtklpfooafbjnpaaGreatProg
import Derived.ProofKit
import Derived.Laws.StructEq
import Derived.Shelf.Small.Bits
import Derived.Shelf.Strconv.Itoa0
import Derived.Shelf.Bits.Mul64
import Derived.Test.YtklpfooafbjnpaaGreatSLClimbsK6
set_option maxRecDepth 100000
set_option maxHeartbeats 64000000
set_option linter.unusedVariables false
set_option linter.unusedSimpArgs false
set_option linter.unusedSectionVars false
open Go.Proofs.Tryz renaming prog → ah
namespace Go.Proofs.YtklpfooafbjnpaaGreat
open Go.RowKit
structure An where
 ty:List (Nat×Bool×Nat)
 zero:List (Nat×List Value)
 pn:List (Nat×List (Nat×Nat))
 oM:List (Nat×Nat×Nat)
 jR:List (Nat×List (Nat×Nat))
def mN{α:Type}(R:α→Prop):List α→Prop
 | []=>True
 | a::l=>R a∧mN R l
theorem r1{α:Type}{R:Nat×α→Prop}{k:Nat}{v:α}:∀(l:List (Nat×α)),mN R l→gH l k=some v→R (k,v)
 | [],_,h=>by cases h
 | (j,u)::l,al,h=>by
  simp only[gH] at h;cases aa:Nat.beq k j with
  | true=>rw[aa] at h;cases h;obtain rfl:=gp aa;exact al.1
  | false=>rw[aa] at h;exact r1 l al.2 h
class HO (P:Program) (T:outParam An):Prop where
 ty:mN (fun p=>lL P p.1=some p.2) T.ty
 zero:mN (fun p=>zeroOf P p.1=some p.2) T.zero
 pn:mN (fun p=>mN (fun q=>uX P p.1 q.1=some q.2) p.2) T.pn
 oM:mN (fun p=>D6 P p.1=some p.2) T.oM
 jR:mN (fun p=>GA P p.1=some p.2) T.jR
def Uc(b:BinOp)(m n:Int):Option Bool :=
 match b with
 | .lss=>some (decide (m<n))
 | .leq=>some (decide (m≤n))
 | .gtr=>some (decide (n<m))
 | .geq=>some (decide (n≤m))
 | .eql=>some (decide (m=n))
 | .neq=>some (!decide (m=n))
 | _=>none
def oD(T:An)(s:aB)(d:Nat):Op→Option aB
 | .move x=>match s.look x with
  | some av=>some (s.put (some d) av)
  | none=>none
 | .assign x=>match s.look x with
  | some av=>some (s.put (some d) av)
  | none=>none
 | .pick c x y=>match s.look c,s.look x,s.look y with
  | some (.w (.one (.c (.bool true)))),some av,some _=>some (s.put (some d) av)
  | some (.w (.one (.c (.bool false)))),some _,some bv=>some (s.put (some d) bv)
  | _,_,_=>none
 | .alloc t=>match gH T.zero t,s.mem d with
  | some vs,none=>bif vs.all fun v=>v.oneCell' then some ((s.eb d (vs.map .c)).put (some d) (n1 d 0)) else none
  | _,_=>none
 | .box _ x=>match s.look x,s.mem d with
  | some (.w z),none=>some ((s.eb d z.cells).put (some d) (n1 d 0))
  | _,_=>none
 | .load t x=>match s.look x with
  | some (.w (.one (.own k off)))=>match s.mem k with
   | some cs=>match gH T.ty t with
    | some (false,_)=>match cs[off]? with
     | some y=>some (s.put (some d) (.w (.one y)))
     | none=>none
    | some (true,n)=>match takeN cs off n with
     | some ys=>some (s.put (some d) (.w (.agg ys)))
     | none=>none
    | none=>none
   | none=>none
  | _=>none
 | .fieldAddr t x i=>match s.look x with
  | some (.w (.one (.own k off)))=>match gH T.pn t with
   | some l=>match gH l i with
    | some jr=>some (s.put (some d) (n1 k (off+jr)))
    | none=>none
   | none=>none
  | _=>none
 | .indexAddr t x y=>match s.look x,s.look y with
  | some (.w (.one (.own k off))),some (.w (.one (.c (.int _ i))))=>match gH T.oM t with
   | some (n,size)=>bif decide (0≤i)&&decide (i<n) then some (s.put (some d) (n1 k (off+i.toNat*size))) else none
   | none=>none
  | _,_=>none
 | .extract x i=>match s.look x with
  | some (.cj xs)=>match xs[i]? with
   | some y=>some (s.put (some d) (.w y))
   | none=>none
  | _=>none
 | .build t parts=>match oV s.look parts.toList,gH T.zero t,gH T.jR t with
  | some zs,some vs,some ps=>match r3 ps (vs.map .c) zs with
   | some r=>bif vs.all fun v=>v.oneCell' then some (s.put (some d) (.w (.agg r))) else none
   | none=>none
  | _,_,_=>none
 | .binOp b _ x y _=>match s.look x,s.look y with
  | some (.w (.one (.c (.int k m)))),some (.w (.one (.c (.int k' n))))=>match decEq k k' with
   | isTrue _=>match Uc b m n with
    | some r=>some (s.put (some d) (bl r))
    | none=>none
   | isFalse _=>none
  | _,_=>none
 | .unOp .not _ x=>match s.look x with
  | some (.w (.one (.c (.bool b))))=>some (s.put (some d) (bl (!b)))
  | _=>none
 | _=>none
def Ue(T:An)(ops:Array Oper)(s:aB)(o:Oper):Option aB :=
 match want ops o s with
 | some true=>match o.dst with
  | some d=>bif Nat.blt d s.n then oD T s d o.op else none
  | none=>match o.op with
   | .store t x y=>match s.look x,s.look y with
    | some (.w (.one (.own k off))),some (.w z)=>match s.mem k,gH T.ty t with
     | some cs,some (_,n)=>bif Nat.beq n z.cells.length then(match qB cs off z.cells with
      | some ds=>some (s.eb k ds)
      | none=>none) else none
     | _,_=>none
    | _,_=>none
   | _=>none
 | some false=>match o.dst with
  | some d=>bif Nat.blt d s.n then some (s.put (some d) (.cj [])) else none
  | none=>some s
 | none=>none
section
variable{P:Program}{T:An}{s s':aB}{ops:Array Oper}{K:aB→Prop}{rest:List Oper}
theorem YU [Q:HO P T]{d ty:Nat}{op:Op}{pos:String}{after:Array Edge}{guard:Option (Nat×Bool)}(hw:want ops ⟨some d,op,ty,pos,after,guard⟩ s=some true)(hd:Nat.blt d s.n=true)(h:oD T s d op=some s')(k:bk P ops K rest s') :
  bk P ops K (⟨some d,op,ty,pos,after,guard⟩::rest) s:=by
 cases op with
 | move x =>
  simp only[oD] at h
  split at h
  ·rename_i av ab;cases h;exact YH hw ab hd k
  ·cases h
 | assign x =>
  simp only[oD] at h
  split at h
  ·rename_i av ab;cases h;exact Yi hw ab hd k
  ·cases h
 | pick c x y =>
  simp only[oD] at h
  split at h
  ·rename_i av bv ak ab ai;cases h;exact YT hw ak ab ai hd k
  ·rename_i av bv ak ab ai;cases h;exact YS hw ak ai ab hd k
  ·cases h
 | alloc t =>
  simp only[oD] at h
  split at h
  ·rename_i vs aT hm;have ec:=r1 _ Q.zero aT;cases h1:(vs.all fun v=>v.oneCell') with
   | true =>
    rw[h1] at h;cases h;have:DR P t vs:=⟨ec⟩;exact Yh hw hm h1 hd k
   | false=>rw[h1] at h;cases h
  ·cases h
 | box t x =>
  simp only[oD] at h
  split at h
  ·rename_i z ab hm;cases h;exact Yj hw ab hm hd k
  ·cases h
 | load t x =>
  simp only[oD] at h
  split at h
  ·rename_i j off ab
   split at h
   ·rename_i cs hm
    split at h
    ·rename_i n eS;have Bh:=r1 _ Q.ty eS
     split at h
     ·rename_i y ak;cases h;have:e6 P t false n:=⟨Bh⟩;exact YB hw ab hm ak hd k
     ·cases h
    ·rename_i n eS;have Bh:=r1 _ Q.ty eS
     split at h
     ·rename_i ys ak;cases h;have:e6 P t true n:=⟨Bh⟩;exact YC hw ab hm ak hd k
     ·cases h
    ·cases h
   ·cases h
  ·cases h
 | fieldAddr t x i =>
  simp only[oD] at h
  split at h
  ·rename_i j off ab
   split at h
   ·rename_i l al
    split at h
    ·rename_i jr ay;have hF:=r1 _ (r1 _ Q.pn al) ay;cases h;have:oK P t i jr:=⟨hF⟩;exact Yv hw ab hd k
    ·cases h
   ·cases h
  ·cases h
 | indexAddr t x y =>
  simp only[oD] at h
  split at h
  ·rename_i j off gO i ab ai
   split at h
   ·rename_i n size cp;have A6:=r1 _ Q.oM cp;cases h1:(decide (0≤i)&&decide (i<(n:Int))) with
    | true =>
     rw[h1] at h;cases h;rw[ef,cV,cV] at h1;have:MO P t n size:=⟨A6⟩;exact NK hw ab ai h1.1 h1.2 hd k
    | false=>rw[h1] at h;cases h
   ·cases h
  ·cases h
 | extract x i =>
  simp only[oD] at h
  split at h
  ·rename_i xs ab
   split at h
   ·rename_i y ai;cases h;exact Yt hw ab ai hd k
   ·cases h
  ·cases h
 | build t parts =>
  simp only[oD] at h
  split at h
  ·rename_i zs vs ps aT hv hp;have ec:=r1 _ Q.zero hv;have dn:=r1 _ Q.jR hp
   split at h
   ·rename_i r ap;cases h1:(vs.all fun v=>v.oneCell') with
    | true =>
     rw[h1] at h;cases h;have:DR P t vs:=⟨ec⟩;have:Nc P t ps:=⟨dn⟩;have g:bk P ops K (⟨some d,.build t parts.toList.toArray,ty,pos,after,guard⟩::rest) s:=Yk (by rw[Array.toArray_toList];exact hw) aT ap h1 hd k;rwa [Array.toArray_toList] at g
    | false=>rw[h1] at h;cases h
   ·cases h
  ·cases h
 | binOp b dm x y dY =>
  simp only[oD] at h
  split at h
  ·rename_i gO m anY n ab ai
   split at h
   ·rename_i e he;subst e;cases b <;> simp only[Uc] at h <;> cases h
    ·exact Yq hw ab ai hd k
    ·exact YL hw ab ai hd k
    ·exact YD hw ab ai hd k
    ·exact YA hw ab ai hd k
    ·exact Yy hw ab ai hd k
    ·exact Yx hw ab ai hd k
   ·cases h
  ·cases h
 | unOp u dm x =>
  cases u <;> simp only[oD] at h <;> try (cases h;done)
  split at h
  ·rename_i b ab;cases h;exact YR hw ab hd k
  ·cases h
 | _=>simp only[oD] at h;cases h
theorem gd [Q:HO P T]{o:Oper}(h:Ue T ops s o=some s')(k:bk P ops K rest s'):bk P ops K (o::rest) s:=by
 obtain⟨dst,op,ty,pos,after,guard⟩:=o;unfold Ue at h
 split at h
 ·rename_i hw;cases dst with
  | some d =>
   simp only at h;cases hd:Nat.blt d s.n with
   | true=>rw[hd] at h;exact YU hw hd h k
   | false=>rw[hd] at h;cases h
  | none =>
   simp only at h
   split at h
   ·rename_i t x y
    split at h
    ·rename_i j off z ab ai
     split at h
     ·rename_i cs b n hm eS;have Bh:=r1 _ Q.ty eS;cases aA:Nat.beq n z.cells.length with
      | true =>
       rw[aA] at h;simp only[cond_true] at h
       split at h
       ·rename_i ds hp;cases h;have:e6 P t b n:=⟨Bh⟩;exact Y1 hw ab ai hm aA hp k
       ·cases h
      | false=>rw[aA] at h;cases h
     ·cases h
    ·cases h
   ·cases h
 ·rename_i hw;cases dst with
  | some d =>
   simp only at h;cases hd:Nat.blt d s.n with
   | true=>rw[hd] at h;cases h;exact NN hw (fun d' e=>by cases e;exact hd) k
   | false=>rw[hd] at h;cases h
  | none=>cases h;exact NN hw (fun d' e=>by cases e) k
 ·cases h
end
end Go.Proofs.YtklpfooafbjnpaaGreat
namespace Go.Proofs.YtklpfooafbjnpaaGreat
instance:e6 ah 3 false 1:=⟨by kernel_rfl⟩
instance:HH ah 3 .i64:=⟨by kernel_rfl⟩
instance:e6 ah 4 false 1:=⟨by kernel_rfl⟩
instance:n7 ah 22 [.int .i64 0,.int .i64 0,.int .i64 0,.int .i64 0,.int .i64 0]:=⟨by kernel_rfl⟩
instance:hM ah 22 5:=⟨by kernel_rfl⟩
instance:e6 ah 26 false 1:=⟨by kernel_rfl⟩
instance:e6 ah 28 false 1:=⟨by kernel_rfl⟩
instance:n7 ah 28 [.int .i64 0,.int .i64 0,.int .i64 0,.int .i64 0,.int .i64 0]:=⟨by kernel_rfl⟩
instance:hM ah 28 5:=⟨by kernel_rfl⟩
instance:e6 ah 41 false 1:=⟨by kernel_rfl⟩
instance:n7 ah 41 [.int .i64 0,.int .i64 0]:=⟨by kernel_rfl⟩
instance:hM ah 41 2:=⟨by kernel_rfl⟩
instance:e6 ah 42 false 1:=⟨by kernel_rfl⟩
instance:n7 ah 42 [.slice none 0 0,.slice none 0 0]:=⟨by kernel_rfl⟩
instance:hM ah 42 2:=⟨by kernel_rfl⟩
instance:e6 ah 44 true 10:=⟨by kernel_rfl⟩
instance:oK ah 44 0 0:=⟨by kernel_rfl⟩
instance:oK ah 44 2 2:=⟨by kernel_rfl⟩
instance:oK ah 44 9 9:=⟨by kernel_rfl⟩
instance:e6 ah 50 true 2:=⟨by kernel_rfl⟩
instance:e6 ah 51 false 1:=⟨by kernel_rfl⟩
instance:n7 ah 51 [.int .i64 0]:=⟨by kernel_rfl⟩
instance:hM ah 51 1:=⟨by kernel_rfl⟩
instance:e6 ah 53 true 2:=⟨by kernel_rfl⟩
instance:oK ah 53 1 1:=⟨by kernel_rfl⟩
instance:e6 ah 60 true 2:=⟨by kernel_rfl⟩
instance:e6 ah 63 true 5:=⟨by kernel_rfl⟩
instance:oK ah 63 0 0:=⟨by kernel_rfl⟩
instance:e6 ah 65 false 1:=⟨by kernel_rfl⟩
instance:n7 ah 65 [.slice none 0 0]:=⟨by kernel_rfl⟩
instance:hM ah 65 1:=⟨by kernel_rfl⟩
instance:e6 ah 70 false 1:=⟨by kernel_rfl⟩
instance:e6 ah 73 true 6:=⟨by kernel_rfl⟩
instance:e6 ah 95 true 5:=⟨by kernel_rfl⟩
instance:n7 ah 100 [.int .i64 0,.int .i64 0,.int .i64 0,.int .i64 0]:=⟨by kernel_rfl⟩
instance:hM ah 100 4:=⟨by kernel_rfl⟩
instance:oK ah 102 0 0:=⟨by kernel_rfl⟩
instance:oK ah 102 1 1:=⟨by kernel_rfl⟩
instance:e6 ah 127 false 1:=⟨by kernel_rfl⟩
instance:n7 ah 127 [.int .i64 0,.int .i64 0]:=⟨by kernel_rfl⟩
instance:hM ah 127 2:=⟨by kernel_rfl⟩
instance:oK ah 130 2 2:=⟨by kernel_rfl⟩
instance:e6 ah 137 true 2:=⟨by kernel_rfl⟩
instance:n7 ah 144 [.int .i64 0,.int .i64 0,.int .i64 0]:=⟨by kernel_rfl⟩
instance:hM ah 144 3:=⟨by kernel_rfl⟩
instance:e6 ah 180 true 2:=⟨by kernel_rfl⟩
instance:e6 ah 182 true 4:=⟨by kernel_rfl⟩
instance:e6 ah 184 true 13:=⟨by kernel_rfl⟩
instance:e6 ah 188 true 4:=⟨by kernel_rfl⟩
instance:e6 ah 237 true 4:=⟨by kernel_rfl⟩
instance:hM ah 254 5:=⟨by kernel_rfl⟩
instance:e6 ah 288 false 1:=⟨by kernel_rfl⟩
instance:HH ah 288 .u64:=⟨by kernel_rfl⟩
instance:e6 ah 293 true 3:=⟨by kernel_rfl⟩
instance:oK ah 293 1 2:=⟨by kernel_rfl⟩
instance:n7 ah 303 [.slice none 0 0]:=⟨by kernel_rfl⟩
instance:hM ah 303 1:=⟨by kernel_rfl⟩
instance:n7 ah 304 [.slice none 0 0]:=⟨by kernel_rfl⟩
instance:hM ah 304 1:=⟨by kernel_rfl⟩
instance:e6 ah 321 true 3:=⟨by kernel_rfl⟩
instance:e6 ah 323 true 10:=⟨by kernel_rfl⟩
instance:e6 ah 346 true 4:=⟨by kernel_rfl⟩
instance:e6 ah 350 true 2:=⟨by kernel_rfl⟩
instance:Enters ah 16:=⟨by kernel_rfl⟩
instance:Enters ah 22:=⟨by kernel_rfl⟩
instance:Enters ah 23:=⟨by kernel_rfl⟩
instance:Enters ah 24:=⟨by kernel_rfl⟩
instance:Enters ah 28:=⟨by kernel_rfl⟩
instance:Enters ah 30:=⟨by kernel_rfl⟩
instance:Enters ah 32:=⟨by kernel_rfl⟩
instance:Enters ah 37:=⟨by kernel_rfl⟩
instance:Enters ah 38:=⟨by kernel_rfl⟩
instance:Enters ah 39:=⟨by kernel_rfl⟩
instance:Enters ah 43:=⟨by kernel_rfl⟩
instance:Enters ah 44:=⟨by kernel_rfl⟩
instance:Enters ah 45:=⟨by kernel_rfl⟩
instance:Enters ah 46:=⟨by kernel_rfl⟩
instance:Enters ah 47:=⟨by kernel_rfl⟩
instance:Enters ah 48:=⟨by kernel_rfl⟩
instance:Enters ah 49:=⟨by kernel_rfl⟩
instance:Enters ah 50:=⟨by kernel_rfl⟩
instance:Enters ah 51:=⟨by kernel_rfl⟩
instance:Enters ah 52:=⟨by kernel_rfl⟩
instance:Enters ah 53:=⟨by kernel_rfl⟩
instance:Enters ah 54:=⟨by kernel_rfl⟩
instance:Enters ah 56:=⟨by kernel_rfl⟩
instance:Enters ah 57:=⟨by kernel_rfl⟩
instance:Enters ah 58:=⟨by kernel_rfl⟩
instance:Enters ah 59:=⟨by kernel_rfl⟩
instance:Enters ah 60:=⟨by kernel_rfl⟩
instance:Enters ah 61:=⟨by kernel_rfl⟩
instance:Enters ah 62:=⟨by kernel_rfl⟩
instance:Enters ah 63:=⟨by kernel_rfl⟩
instance:Enters ah 72:=⟨by kernel_rfl⟩
instance:Enters ah 73:=⟨by kernel_rfl⟩
instance:Enters ah 74:=⟨by kernel_rfl⟩
instance:Enters ah 75:=⟨by kernel_rfl⟩
instance:Enters ah 76:=⟨by kernel_rfl⟩
instance:Enters ah 80:=⟨by kernel_rfl⟩
instance:Enters ah 81:=⟨by kernel_rfl⟩
instance:Enters ah 82:=⟨by kernel_rfl⟩
instance:Enters ah 83:=⟨by kernel_rfl⟩
instance:Enters ah 84:=⟨by kernel_rfl⟩
instance:Enters ah 96:=⟨by kernel_rfl⟩
instance:Enters ah 97:=⟨by kernel_rfl⟩
instance:Enters ah 98:=⟨by kernel_rfl⟩
instance:Enters ah 99:=⟨by kernel_rfl⟩
instance:Enters ah 100:=⟨by kernel_rfl⟩
instance:Enters ah 102:=⟨by kernel_rfl⟩
instance:Enters ah 103:=⟨by kernel_rfl⟩
instance:Enters ah 104:=⟨by kernel_rfl⟩
instance:Enters ah 105:=⟨by kernel_rfl⟩
instance:Enters ah 106:=⟨by kernel_rfl⟩
instance:Enters ah 107:=⟨by kernel_rfl⟩
instance:Enters ah 108:=⟨by kernel_rfl⟩
instance:Enters ah 109:=⟨by kernel_rfl⟩
instance:Enters ah 110:=⟨by kernel_rfl⟩
instance:Enters ah 129:=⟨by kernel_rfl⟩
instance:Enters ah 130:=⟨by kernel_rfl⟩
instance:Enters ah 131:=⟨by kernel_rfl⟩
instance:Enters ah 132:=⟨by kernel_rfl⟩
instance:Enters ah 133:=⟨by kernel_rfl⟩
instance:Enters ah 134:=⟨by kernel_rfl⟩
instance:Enters ah 135:=⟨by kernel_rfl⟩
instance:Enters ah 136:=⟨by kernel_rfl⟩
instance:Enters ah 137:=⟨by kernel_rfl⟩
instance:Enters ah 138:=⟨by kernel_rfl⟩
instance:Enters ah 139:=⟨by kernel_rfl⟩
instance:Enters ah 140:=⟨by kernel_rfl⟩
instance:Enters ah 141:=⟨by kernel_rfl⟩
instance:Enters ah 142:=⟨by kernel_rfl⟩
instance:Enters ah 143:=⟨by kernel_rfl⟩
instance:Enters ah 144:=⟨by kernel_rfl⟩
instance:Enters ah 145:=⟨by kernel_rfl⟩
instance:Enters ah 146:=⟨by kernel_rfl⟩
instance:Enters ah 151:=⟨by kernel_rfl⟩
instance:Enters ah 153:=⟨by kernel_rfl⟩
instance:Enters ah 154:=⟨by kernel_rfl⟩
instance:Enters ah 155:=⟨by kernel_rfl⟩
instance:Enters ah 162:=⟨by kernel_rfl⟩
instance:Enters ah 163:=⟨by kernel_rfl⟩
instance:Enters ah 166:=⟨by kernel_rfl⟩
instance:Enters ah 184:=⟨by kernel_rfl⟩
instance:Enters ah 185:=⟨by kernel_rfl⟩
instance:Enters ah 186:=⟨by kernel_rfl⟩
instance:Enters ah 187:=⟨by kernel_rfl⟩
instance:Enters ah 188:=⟨by kernel_rfl⟩
instance:Enters ah 189:=⟨by kernel_rfl⟩
instance:Enters ah 190:=⟨by kernel_rfl⟩
instance:Enters ah 191:=⟨by kernel_rfl⟩
instance:Enters ah 192:=⟨by kernel_rfl⟩
instance:Enters ah 193:=⟨by kernel_rfl⟩
instance:Enters ah 194:=⟨by kernel_rfl⟩
instance:Enters ah 195:=⟨by kernel_rfl⟩
instance:Enters ah 196:=⟨by kernel_rfl⟩
instance:Enters ah 197:=⟨by kernel_rfl⟩
instance:Enters ah 198:=⟨by kernel_rfl⟩
instance:Enters ah 199:=⟨by kernel_rfl⟩
instance:Enters ah 200:=⟨by kernel_rfl⟩
instance:Enters ah 201:=⟨by kernel_rfl⟩
instance:Enters ah 203:=⟨by kernel_rfl⟩
instance:Enters ah 204:=⟨by kernel_rfl⟩
instance:Enters ah 205:=⟨by kernel_rfl⟩
instance:Enters ah 207:=⟨by kernel_rfl⟩
instance:Enters ah 210:=⟨by kernel_rfl⟩
instance:Enters ah 212:=⟨by kernel_rfl⟩
instance:Enters ah 213:=⟨by kernel_rfl⟩
instance:Enters ah 215:=⟨by kernel_rfl⟩
instance:Enters ah 216:=⟨by kernel_rfl⟩
instance:Enters ah 217:=⟨by kernel_rfl⟩
instance:Enters ah 218:=⟨by kernel_rfl⟩
instance:Enters ah 221:=⟨by kernel_rfl⟩
instance:Enters ah 222:=⟨by kernel_rfl⟩
instance:Enters ah 223:=⟨by kernel_rfl⟩
instance:Enters ah 239:=⟨by kernel_rfl⟩
instance:Enters ah 240:=⟨by kernel_rfl⟩
instance:Enters ah 241:=⟨by kernel_rfl⟩
instance:Enters ah 242:=⟨by kernel_rfl⟩
instance:Enters ah 243:=⟨by kernel_rfl⟩
instance:Enters ah 244:=⟨by kernel_rfl⟩
instance:Enters ah 245:=⟨by kernel_rfl⟩
instance:Enters ah 246:=⟨by kernel_rfl⟩
instance:Enters ah 247:=⟨by kernel_rfl⟩
instance:Enters ah 248:=⟨by kernel_rfl⟩
instance:Enters ah 249:=⟨by kernel_rfl⟩
instance:Enters ah 250:=⟨by kernel_rfl⟩
instance:Enters ah 251:=⟨by kernel_rfl⟩
instance:Enters ah 252:=⟨by kernel_rfl⟩
instance:Enters ah 254:=⟨by kernel_rfl⟩
instance:Enters ah 255:=⟨by kernel_rfl⟩
instance:Enters ah 256:=⟨by kernel_rfl⟩
instance:Enters ah 257:=⟨by kernel_rfl⟩
instance:Enters ah 258:=⟨by kernel_rfl⟩
instance:Enters ah 259:=⟨by kernel_rfl⟩
instance:Enters ah 260:=⟨by kernel_rfl⟩
instance:Enters ah 263:=⟨by kernel_rfl⟩
instance:Enters ah 266:=⟨by kernel_rfl⟩
instance:Enters ah 276:=⟨by kernel_rfl⟩
instance:Enters ah 277:=⟨by kernel_rfl⟩
instance:Enters ah 278:=⟨by kernel_rfl⟩
instance:Enters ah 279:=⟨by kernel_rfl⟩
instance:Enters ah 280:=⟨by kernel_rfl⟩
instance:Enters ah 281:=⟨by kernel_rfl⟩
instance:Enters ah 282:=⟨by kernel_rfl⟩
instance:Enters ah 283:=⟨by kernel_rfl⟩
instance:Enters ah 284:=⟨by kernel_rfl⟩
instance:Enters ah 285:=⟨by kernel_rfl⟩
instance:Enters ah 286:=⟨by kernel_rfl⟩
instance:Enters ah 287:=⟨by kernel_rfl⟩
instance:Enters ah 288:=⟨by kernel_rfl⟩
instance:Enters ah 289:=⟨by kernel_rfl⟩
instance:Enters ah 290:=⟨by kernel_rfl⟩
instance:Enters ah 292:=⟨by kernel_rfl⟩
instance:Enters ah 293:=⟨by kernel_rfl⟩
instance:Enters ah 294:=⟨by kernel_rfl⟩
instance:Enters ah 295:=⟨by kernel_rfl⟩
instance:Enters ah 298:=⟨by kernel_rfl⟩
instance:Enters ah 299:=⟨by kernel_rfl⟩
instance:Enters ah 300:=⟨by kernel_rfl⟩
instance:Enters ah 301:=⟨by kernel_rfl⟩
instance:Enters ah 303:=⟨by kernel_rfl⟩
instance:Enters ah 304:=⟨by kernel_rfl⟩
instance:Enters ah 305:=⟨by kernel_rfl⟩
instance:Enters ah 306:=⟨by kernel_rfl⟩
instance:Enters ah 307:=⟨by kernel_rfl⟩
instance:Enters ah 308:=⟨by kernel_rfl⟩
instance:Enters ah 309:=⟨by kernel_rfl⟩
instance:Enters ah 310:=⟨by kernel_rfl⟩
instance:Enters ah 312:=⟨by kernel_rfl⟩
instance:Enters ah 313:=⟨by kernel_rfl⟩
instance:Enters ah 314:=⟨by kernel_rfl⟩
instance:Enters ah 315:=⟨by kernel_rfl⟩
instance:Enters ah 316:=⟨by kernel_rfl⟩
instance:Enters ah 317:=⟨by kernel_rfl⟩
instance:Enters ah 318:=⟨by kernel_rfl⟩
instance:Enters ah 319:=⟨by kernel_rfl⟩
instance:Enters ah 323:=⟨by kernel_rfl⟩
instance:Enters ah 324:=⟨by kernel_rfl⟩
instance:Enters ah 325:=⟨by kernel_rfl⟩
instance:Enters ah 326:=⟨by kernel_rfl⟩
instance:Enters ah 328:=⟨by kernel_rfl⟩
instance:Enters ah 329:=⟨by kernel_rfl⟩
instance:Enters ah 332:=⟨by kernel_rfl⟩
instance:Enters ah 333:=⟨by kernel_rfl⟩
instance:Enters ah 335:=⟨by kernel_rfl⟩
instance:Enters ah 336:=⟨by kernel_rfl⟩
instance:Enters ah 337:=⟨by kernel_rfl⟩
instance:Enters ah 338:=⟨by kernel_rfl⟩
instance:Enters ah 339:=⟨by kernel_rfl⟩
def tab:An where
 ty:=[(0,false,1),(1,false,1),(2,false,1),(3,false,1),(4,false,1),(9,false,1),(20,false,1),(22,false,1),(25,false,1),(26,false,1),(28,false,1),(41,false,1),(42,false,1),(44,true,10),(46,false,1),(50,true,2),(51,false,1),(53,true,2),(60,true,2),(63,true,5),(65,false,1),(67,true,6),(69,false,1),(70,false,1),(71,false,1),(73,true,6),(95,true,5),(97,false,1),(100,false,1),(102,true,13),(104,false,1),(111,true,4),(127,false,1),(130,true,5),(134,false,1),(136,false,1),(137,true,2),(139,false,1),(140,false,1),(143,false,1),(144,false,1),(146,true,1),(148,true,2),(174,false,1),(176,false,1),(178,false,1),(180,true,2),(182,true,4),(184,true,13),(186,false,1),(188,true,4),(191,false,1),(194,false,1),(196,false,1),(199,false,1),(201,true,6),(212,false,1),(213,false,1),(234,false,1),(237,true,4),(254,false,1),(262,false,1),(263,false,1),(281,false,1),(284,false,1),(288,false,1),(289,false,1),(291,false,1),(293,true,3),(298,true,5),(300,false,1),(303,false,1),(304,false,1),(305,false,1),(319,true,6),(321,true,3),(323,true,10),(325,false,1),(326,true,4),(327,false,1),(328,false,1),(330,false,1),(334,false,1),(346,true,4),(350,true,2),(351,false,1),(360,false,1),(366,false,1)]
 zero:=[(1,[.nilFunc]),(2,[.int .i64 0]),(3,[.int .i64 0]),(4,[.bool false]),(9,[.string ByteArray.empty]),(20,[.nilIface]),(22,[.slice none 0 0]),(25,[.nilFunc]),(26,[.pointer none]),(28,[.slice none 0 0]),(41,[.slice none 0 0]),(42,[.slice none 0 0]),(44,[.int .i64 0,.int .i64 0,.int .i64 0,.int .i64 0,.int .i64 0,.int .i64 0,.bool false,.slice none 0 0,.slice none 0 0,.slice none 0 0]),(50,[.int .i64 0,.int .i64 0]),(51,[.slice none 0 0]),(53,[.slice none 0 0,.slice none 0 0]),(60,[.int .i64 0,.int .i64 0]),(63,[.int .i64 0,.int .i64 0,.int .i64 0,.int .i64 0,.int .i64 0]),(65,[.slice none 0 0]),(67,[.slice none 0 0,.slice none 0 0,.int .i64 0,.int .i64 0,.int .i64 0,.int .i64 0]),(69,[.pointer none]),(70,[.int .i64 0]),(73,[.slice none 0 0,.slice none 0 0,.int .i64 0,.int .i64 0,.int .i64 0,.int .i64 0]),(95,[.int .i64 0,.int .i64 0,.int .i64 0,.int .i64 0,.int .i64 0]),(97,[.pointer none]),(100,[.slice none 0 0]),(102,[.slice none 0 0,.int .i64 0,.int .i64 0,.int .i64 0,.int .i64 0,.int .i64 0,.int .i64 0,.bool false,.slice none 0 0,.slice none 0 0,.slice none 0 0,.pointer none,.slice none 0 0]),(104,[.nilFunc]),(111,[.nilFunc,.nilFunc,.nilFunc,.nilFunc]),(127,[.slice none 0 0]),(130,[.slice none 0 0,.int .i64 0,.int .i64 0,.int .i64 0,.pointer none]),(134,[.chan none]),(137,[.slice none 0 0,.slice none 0 0]),(139,[.nilFunc]),(140,[.nilFunc]),(143,[.nilFunc]),(144,[.slice none 0 0]),(146,[.slice none 0 0]),(148,[.slice none 0 0,.int .i64 0]),(176,[.nilFunc]),(178,[.int .u64 0]),(180,[.int .i64 0,.int .u64 0]),(182,[.int .i64 0,.int .u64 0,.int .i64 0,.int .u64 0]),(184,[.int .i64 0,.int .i64 0,.int .u64 0,.int .i64 0,.int .u64 0,.int .i64 0,.int .u64 0,.int .i64 0,.int .u64 0,.int .i64 0,.int .i64 0,.int .i64 0,.int .i64 0]),(186,[.pointer none]),(188,[.int .i64 0,.int .i64 0,.int .i64 0,.int .i64 0]),(194,[.nilFunc]),(201,[.nilFunc,.nilFunc,.nilFunc,.nilFunc,.nilFunc,.nilFunc]),(212,[.chan none]),(213,[.nilFunc]),(237,[.int .i64 0,.int .i64 0,.int .i64 0,.int .i64 0]),(254,[.slice none 0 0]),(262,[.nilFunc]),(263,[.nilFunc]),(288,[.int .u64 0]),(291,[.pointer none]),(293,[.int .i64 0,.int .i64 0,.int .i64 0]),(298,[.int .i64 0,.int .i64 0,.int .i64 0,.int .i64 0,.int .i64 0]),(300,[.map none]),(303,[.slice none 0 0]),(304,[.slice none 0 0]),(305,[.nilFunc]),(319,[.int .i64 0,.int .i64 0,.int .i64 0,.int .i64 0,.bool false,.bool false]),(321,[.int .i64 0,.int .i64 0,.bool false]),(323,[.int .i64 0,.int .i64 0,.int .i64 0,.int .i64 0,.int .i64 0,.int .i64 0,.bool false,.int .i64 0,.int .i64 0,.bool false]),(325,[.nilFunc]),(326,[.nilFunc,.nilFunc,.nilFunc,.nilFunc]),(327,[.int .u32 0]),(334,[.nilFunc]),(346,[.int .i64 0,.int .i64 0,.int .i64 0,.int .i64 0]),(350,[.int .u64 0,.int .u64 0])]
 pn:=[(44,[(0,0),(1,1),(2,2),(3,3),(4,4),(5,5),(6,6),(7,7),(8,8),(9,9)]),(50,[(0,0),(1,1)]),(53,[(0,0),(1,1)]),(60,[(0,0),(1,1)]),(63,[(0,0),(1,2),(2,4)]),(67,[(0,0),(1,1),(2,2),(3,3),(4,4),(5,5)]),(73,[(0,0),(1,1),(2,2),(3,3),(4,4),(5,5)]),(95,[(0,0),(1,2),(2,4)]),(102,[(0,0),(1,1),(2,11),(3,12)]),(130,[(0,0),(1,1),(2,2),(3,3),(4,4)]),(146,[(0,0)]),(148,[(0,0),(1,1)]),(180,[(0,0),(1,1)]),(182,[(0,0),(1,2)]),(184,[(0,0),(1,1),(2,5),(3,9),(4,11)]),(188,[(0,0),(1,2)]),(237,[(0,0),(1,2)]),(293,[(0,0),(1,2)]),(298,[(0,0),(1,4)]),(319,[(0,0),(1,2),(2,4),(3,5)]),(321,[(0,0),(1,1),(2,2)]),(323,[(0,0),(1,2),(2,4),(3,7)]),(346,[(0,0),(1,2)]),(350,[(0,0),(1,1)])]
 oM:=[(111,4,1),(137,2,1),(201,6,1),(326,4,1)]
 jR:=[(44,[(0,1),(1,1),(2,1),(3,1),(4,1),(5,1),(6,1),(7,1),(8,1),(9,1)]),(50,[(0,1),(1,1)]),(53,[(0,1),(1,1)]),(60,[(0,1),(1,1)]),(63,[(0,2),(2,2),(4,1)]),(67,[(0,1),(1,1),(2,1),(3,1),(4,1),(5,1)]),(73,[(0,1),(1,1),(2,1),(3,1),(4,1),(5,1)]),(95,[(0,2),(2,2),(4,1)]),(102,[(0,1),(1,10),(11,1),(12,1)]),(111,[(0,1),(1,1),(2,1),(3,1)]),(130,[(0,1),(1,1),(2,1),(3,1),(4,1)]),(137,[(0,1),(1,1)]),(146,[(0,1)]),(148,[(0,1),(1,1)]),(180,[(0,1),(1,1)]),(182,[(0,2),(2,2)]),(184,[(0,1),(1,4),(5,4),(9,2),(11,2)]),(188,[(0,2),(2,2)]),(201,[(0,1),(1,1),(2,1),(3,1),(4,1),(5,1)]),(237,[(0,2),(2,2)]),(293,[(0,2),(2,1)]),(298,[(0,4),(4,1)]),(319,[(0,2),(2,2),(4,1),(5,1)]),(321,[(0,1),(1,1),(2,1)]),(323,[(0,2),(2,2),(4,3),(7,3)]),(326,[(0,1),(1,1),(2,1),(3,1)]),(346,[(0,2),(2,2)]),(350,[(0,1),(1,1)])]
theorem yf{α β:Type}{g h:α→β}:∀l:List α,l.map g=l.map h→mN (fun p=>g p=h p) l
 | [],_=>trivial
 | a::l,e=>by
  rw[hY,hY,List.cons.injEq] at e;exact⟨e.1,yf l e.2⟩
theorem NR{α β γ:Type}{k:α→List γ}{g h:α→γ→β}:∀l:List α,(l.map fun p=>(k p).map (g p))=(l.map fun p=>(k p).map (h p))→mN (fun p=>mN (fun q=>g p q=h p q) (k p)) l
 | [],_=>trivial
 | a::l,e=>by
  rw[hY,hY,List.cons.injEq] at e;exact⟨yf _ e.1,NR l e.2⟩
theorem alD:mN (fun p=>lL ah p.1=some p.2) tab.ty:=yf _ (by kernel_rfl)
theorem alE:mN (fun p=>zeroOf ah p.1=some p.2) tab.zero:=yf _ (by kernel_rfl)
theorem alA:mN (fun p=>D6 ah p.1=some p.2) tab.oM:=yf _ (by kernel_rfl)
theorem alC:mN (fun p=>GA ah p.1=some p.2) tab.jR:=yf _ (by kernel_rfl)
theorem alB:mN (fun p=>mN (fun q=>uX ah p.1 q.1=some q.2) p.2) tab.pn:=NR _ (by kernel_rfl)
instance:HO ah tab:=⟨alD,alE,alB,alA,alC⟩
end Go.Proofs.YtklpfooafbjnpaaGreat
namespace Go.Proofs.YtklpfooafbjnpaaGreat
open Go.RowKit
section
variable{P:Program}{s:aB}{ops:Array Oper}{K:aB→Prop}{rest:List Oper}{ty:Nat}{pos:String}{after:Array Edge}{guard:Option (Nat×Bool)}{d:Nat}
theorem YJ{dm:Nat}{x:Operand}{k:IntKind}{a c:Int}(hw:want ops ⟨some d,.unOp .neg dm x,ty,pos,after,guard⟩ s=some true)(ab:s.look x=some (aR (.int k a)))(ak:k.wrap (-a)=c)(hd:Nat.blt d s.n=true)(h:bk P ops K rest (s.put (some d) (aR (.int k c)))):bk P ops K (⟨some d,.unOp .neg dm x,ty,pos,after,guard⟩::rest) s:=by
 refine NP hw ab (fun W => ?_) rfl hd h;rw[←ak,show -a=0-a by omega];cases k <;> rfl
theorem NO{dm dY:Nat}{x y:Operand}{k:IntKind}{a b:Int}(hw:want ops ⟨some d,.binOp .rem dm x y dY,ty,pos,after,guard⟩ s=some true)(ab:s.look x=some (aR (.int k a)))(ai:s.look y=some (aR (.int k b)))(aF:0≤a)(h1:0<b)(hd:Nat.blt d s.n=true)(h:bk P ops K rest (s.put (some d) (aR (.int k (a % b))))):bk P ops K (⟨some d,.binOp .rem dm x y dY,ty,pos,after,guard⟩::rest) s:=by
 refine qY hw ab ai (fun W => ?_) rfl hd h;have aa:b≠0:=by omega
 have e:a.tmod b=a % b:=Int.tmod_eq_emod_of_nonneg aF;rw[←e];cases k <;> simp[binOp,Op.intDiv,aa] <;> rfl
end
abbrev kl(l1 l2 h1 h2:Int):ag := .w (.agg [.c (.int .i64 l1),.c (.int .i64 l2),.c (.int .i64 h1),.c (.int .i64 h2)])
def dG(a b c d:Int):Bool:=decide (a=c)&&decide (b=d)
theorem tm{a b c d:Int}:dG a b c d=true↔a=c∧b=d:=by unfold dG;rw[ef,cV,cV]
def wJ(a b c d a' cx c' d':Int):Bool:=dG a b a' cx&&dG c d c' d'
class Dw (P:Program) (t:TypeId):Prop where
 g:P.eqGuardType P.depth t=false
 h:∀(a b c d:Int) W,(Op.equalIn 10000 t (.agg #[.int .i64 a,.int .i64 b]) (.agg #[.int .i64 c,.int .i64 d])).run P W = .ok (dG a b c d) W
class MX (P:Program) (t:TypeId):Prop where
 g:P.eqGuardType P.depth t=false
 h:∀(a b c d a' cx c' d':Int) W,(Op.equalIn 10000 t (.agg #[.int .i64 a,.int .i64 b,.int .i64 c,.int .i64 d]) (.agg #[.int .i64 a',.int .i64 cx,.int .i64 c',.int .i64 d'])).run P W = .ok (wJ a b c d a' cx c' d') W
theorem IX{P:Program}{op:BinOp}{t:TypeId}{x y:Operand}{u v:Array Value}{W:World}(aw:P.eqGuardType P.depth t=false):(eqGuard op t x y (.agg u) (.agg v)).run P W = .ok () W:=by
 unfold eqGuard;cases op <;> first|rfl|simp[Sem.run_bind,program,Sem.run,Result.andThen,aw]
section
variable{P:Program}{s:aB}{ops:Array Oper}{K:aB→Prop}{rest:List Oper}{ty:Nat}{pos:String}{after:Array Edge}{guard:Option (Nat×Bool)}{d:Nat}
theorem Yo{t dY:Nat}{x y:Operand}{a b a' cx:Int} [E:Dw P t](hw:want ops ⟨some d,.binOp .eql t x y dY,ty,pos,after,guard⟩ s=some true)(ab:s.look x=some (bm a b))(ai:s.look y=some (bm a' cx))(hd:Nat.blt d s.n=true)(h:bk P ops K rest (s.put (some d) (bl (dG a b a' cx)))):bk P ops K (⟨some d,.binOp .eql t x y dY,ty,pos,after,guard⟩::rest) s :=
 yc hw ab ai rfl rfl (fun W=>IX E.g) (fun W=>by rw[run_eql_struct,E.h];rfl) rfl hd h
theorem YM{t dY:Nat}{x y:Operand}{a b a' cx:Int} [E:Dw P t](hw:want ops ⟨some d,.binOp .neq t x y dY,ty,pos,after,guard⟩ s=some true)(ab:s.look x=some (bm a b))(ai:s.look y=some (bm a' cx))(hd:Nat.blt d s.n=true)(h:bk P ops K rest (s.put (some d) (bl (!dG a b a' cx)))):bk P ops K (⟨some d,.binOp .neq t x y dY,ty,pos,after,guard⟩::rest) s :=
 yc hw ab ai rfl rfl (fun W=>IX E.g) (fun W=>by rw[run_neq_struct,E.h];rfl) rfl hd h
theorem Yn{t dY:Nat}{x y:Operand}{a b c e a' cx c' e':Int} [E:MX P t](hw:want ops ⟨some d,.binOp .eql t x y dY,ty,pos,after,guard⟩ s=some true)(ab:s.look x=some (kl a b c e))(ai:s.look y=some (kl a' cx c' e'))(hd:Nat.blt d s.n=true)(h:bk P ops K rest (s.put (some d) (bl (wJ a b c e a' cx c' e')))):bk P ops K (⟨some d,.binOp .eql t x y dY,ty,pos,after,guard⟩::rest) s :=
 yc hw ab ai rfl rfl (fun W=>IX E.g) (fun W=>by rw[run_eql_struct,E.h];rfl) rfl hd h
end
theorem aaH(a b c d:Int)(W:World):(Op.equalIn 10000 50 (.agg #[.int .i64 a,.int .i64 b]) (.agg #[.int .i64 c,.int .i64 d])).run ah W = .ok (dG a b c d) W:=by
 unfold dG
 go_simp
 by_cases h1:a=c <;> by_cases h2:b=d <;> simp[h1,h2]
instance anG:Dw ah 50:=⟨by kernel_rfl,aaH⟩
theorem aaG(a b c d:Int)(W:World):(Op.equalIn 10000 60 (.agg #[.int .i64 a,.int .i64 b]) (.agg #[.int .i64 c,.int .i64 d])).run ah W = .ok (dG a b c d) W:=by
 unfold dG
 go_simp
 by_cases h1:a=c <;> by_cases h2:b=d <;> simp[h1,h2]
instance anH:Dw ah 60:=⟨by kernel_rfl,aaG⟩
def uW(n:Int):Bool:=decide (-536870912≤n)&&decide (n≤536870912)
theorem Pf{n:Int}:uW n=true ↔ -536870912≤n∧n≤536870912:=by unfold uW;rw[ef,cV,cV]
def eE(x y:Int):Bool:=uW x&&uW y
theorem Ug{x y:Int}:eE x y=true↔(-536870912≤x∧x≤536870912) ∧ -536870912≤y∧y≤536870912:=by unfold eE;rw[ef,Pf,Pf]
theorem Tn{n:Int}{b:Bool}(aa:uW n=b):aP ah 307 [aL n] (bl b):=by
 have cs:(-536870912≤n∧n≤536870912∧b=true)∨(-536870912≤n∧¬n≤536870912∧b=false)∨(¬ -536870912≤n∧b=false):=by
  rw[←aa];unfold uW
  by_cases h1 : -536870912≤n <;> by_cases h2:n≤536870912 <;> simp[h1,h2]
 clear aa;rcases cs with ⟨h1,h2,rfl⟩|⟨h1,h2,rfl⟩|⟨h1,rfl⟩
 all_goals
  refine bq (f:=307) Tryz.func307 rfl rfl rfl rfl ?_;(repeat first|refine dd ?_|(with_reducible apply bU (c:=true));rfl;rfl;(exact cd (by omega))|(with_reducible apply bU (c:=false));rfl;rfl;(exact cb (by omega)))
  ((refine bn rfl (bb rfl aM) ?_))
  first|exact ag.aW.refl _|exact ag.aW.of_eq (by rw[cd h2];rfl)|exact ag.aW.of_eq (by rw[cb h2];rfl)
theorem tZ{x y:Int}{b:Bool}(aa:eE x y=b):aP ah 277 [bm x y] (bl b):=by
 have aZ:=Tn (n:=x) rfl;have bM:=Tn (n:=y) rfl;unfold eE at aa;cases q1:uW x <;> cases q2:uW y <;> rw[q1] at aZ <;> rw[q2] at bM <;> rw[q1,q2] at aa <;> subst aa <;> clear q1 q2
 all_goals
  refine bq (f:=277) Tryz.func277 rfl rfl rfl rfl ?_;(refine cR ?_)
  ((refine bn rfl (bb rfl aM) ?_))
  exact ag.aW.refl _
def cm(o1 o2 a1 a2 b1 b2:Int):Int:=(a1-o1)*(b2-o2)-(a2-o2)*(b1-o1)
theorem Lb{x y A B:Int}(h1 : -A≤x)(h2:x≤A)(ar : -B≤y)(aJ:y≤B) : -(A*B)≤x*y∧x*y≤A*B:=by
 have ab:x.natAbs≤A.natAbs:=by omega
 have ai:y.natAbs≤B.natAbs:=by omega
 have h:=Nat.mul_le_mul ab ai;rw[←Int.natAbs_mul,←Int.natAbs_mul] at h;have cp:0≤A*B:=h0 (by omega) (by omega);omega
theorem Ss{x y:Int}(h1 : -1073741824≤x)(h2:x≤1073741824)(ar : -1073741824≤y)(aJ:y≤1073741824) : -1152921504606846976≤x*y∧x*y≤1152921504606846976:=by
 have:=Lb h1 h2 ar aJ;omega
theorem Td{o1 o2 a1 a2 b1 b2:Int}(aD:eE o1 o2=true)(aX:eE a1 a2=true)(aa:eE b1 b2=true):aP ah 242 [bm o1 o2,bm a1 a2,bm b1 b2] (aL (cm o1 o2 a1 a2 b1 b2)):=by
 have R1:=tZ aD;have dR:=tZ aX;have lQ:=tZ aa;rw[Ug] at aD aX aa;have m1:=Ss (x:=a1-o1) (y:=b2-o2) (by omega) (by omega) (by omega) (by omega);have m2:=Ss (x:=a2-o2) (y:=b1-o1) (by omega) (by omega) (by omega) (by omega);refine bq (f:=242) Tryz.func242 rfl rfl rfl rfl ?_;(refine cR ?_)
 ((refine bn rfl (bb rfl aM) ?_))
 exact ag.aW.refl _
theorem ahG{o1 o2 a1 a2 b1 b2:Int}(h:(eE o1 o2&&eE a1 a2&&eE b1 b2)=false):aP ah 242 [bm o1 o2,bm a1 a2,bm b1 b2] (aL 0):=by
 have R1:=tZ (x:=o1) (y:=o2) rfl;have dR:=tZ (x:=a1) (y:=a2) rfl;have lQ:=tZ (x:=b1) (y:=b2) rfl
 have cs:eE o1 o2=false∨(eE o1 o2=true∧eE a1 a2=false)∨(eE o1 o2=true∧eE a1 a2=true∧eE b1 b2=false):=by
  generalize eE o1 o2=p at *;generalize eE a1 a2=q at *;generalize eE b1 b2=r at *;cases p <;> cases q <;> cases r <;> simp_all
 clear h;rcases cs with h1|⟨h1,h2⟩|⟨h1,h2,ar⟩ <;> simp only[*] at R1 dR lQ
 all_goals
  refine bq (f:=242) Tryz.func242 rfl rfl rfl rfl ?_;(refine cR ?_)
  ((refine bn rfl (bb rfl aM) ?_))
  exact ag.aW.refl _
def tj(o1 o2 a1 a2 b1 b2:Int):Int:=if (eE o1 o2&&eE a1 a2&&eE b1 b2)=true then cm o1 o2 a1 a2 b1 b2 else 0
theorem ahF{o1 o2 a1 a2 b1 b2:Int}:aP ah 242 [bm o1 o2,bm a1 a2,bm b1 b2] (aL (tj o1 o2 a1 a2 b1 b2)):=by
 unfold tj
 by_cases h:(eE o1 o2&&eE a1 a2&&eE b1 b2)=true
 ·rw[if_pos h];simp only[ef] at h;exact Td h.1.1 h.1.2 h.2
 ·rw[if_neg h];exact ahG (by simpa using h)
def sW(n:Int):Int:=if n<0 then -1 else if 0<n then 1 else 0
theorem ah2{o1 o2 a1 a2 b1 b2:Int}:aP ah 310 [bm o1 o2,bm a1 a2,bm b1 b2] (aL (sW (tj o1 o2 a1 a2 b1 b2))):=by
 have aZ:=ahF (o1:=o1) (o2:=o2) (a1:=a1) (a2:=a2) (b1:=b1) (b2:=b2);generalize tj o1 o2 a1 a2 b1 b2=c at *;have cs:(c<0∧sW c = -1)∨(¬c<0∧0<c∧sW c=1)∨(¬c<0∧¬ 0<c∧sW c=0):=by unfold sW;repeat' split <;> omega
 rcases cs with ⟨h1,h⟩|⟨h1,h2,h⟩|⟨h1,h2,h⟩ <;> rw[h] <;> clear h
 all_goals
  refine bq (f:=310) Tryz.func310 rfl rfl rfl rfl ?_;(refine cR ?_)
  ((refine bn rfl (bb rfl aM) ?_))
  exact ag.aW.refl _
abbrev hR(a b:Int):Int:=if b<a then b else a
abbrev hQ(a b:Int):Int:=if b>a then b else a
theorem ahC{a1 a2 b1 b2:Int}:aP ah 309 [bm a1 a2,bm b1 b2] (kl (hR a1 b1) (hR a2 b2) (hQ a1 b1) (hQ a2 b2)):=by
 refine bq (f:=309) Tryz.func309 rfl rfl rfl rfl ?_;(refine fi ?_)
 ((refine bn rfl (da rfl rfl rfl aM) ?_))
 exact ag.aW.refl _
def cZ(l1 l2 h1 h2 p1 p2:Int):Bool:=decide (l1≤p1)&&decide (p1≤h1)&&decide (l2≤p2)&&decide (p2≤h2)
theorem abQ{l1 l2 h1 h2 p1 p2:Int}:cZ l1 l2 h1 h2 p1 p2=true↔l1≤p1∧p1≤h1∧l2≤p2∧p2≤h2:=by unfold cZ;simp only[ef,cV,and_assoc]
theorem ahL{l1 l2 h1 h2 p1 p2:Int}{b:Bool}(aa:cZ l1 l2 h1 h2 p1 p2=b):aP ah 308 [kl l1 l2 h1 h2,bm p1 p2] (bl b):=by
 have cs:(l1≤p1∧p1≤h1∧l2≤p2∧p2≤h2∧b=true)∨(l1≤p1∧p1≤h1∧l2≤p2∧¬p2≤h2∧b=false)∨(l1≤p1∧p1≤h1∧¬l2≤p2∧b=false)∨(l1≤p1∧¬p1≤h1∧b=false)∨(¬l1≤p1∧b=false):=by
  rw[←aa];unfold cZ
  by_cases q1:l1≤p1 <;> by_cases q2:p1≤h1 <;> by_cases q3:l2≤p2 <;> by_cases q4:p2≤h2 <;> simp[q1,q2,q3,q4]
 clear aa;rcases cs with ⟨q1,q2,q3,q4,rfl⟩|⟨q1,q2,q3,q4,rfl⟩|⟨q1,q2,q3,rfl⟩|⟨q1,q2,rfl⟩|⟨q1,rfl⟩
 all_goals
  refine bq (f:=308) Tryz.func308 rfl rfl rfl rfl ?_;(repeat first|refine dd ?_|(with_reducible apply bU (c:=true));rfl;rfl;(exact cd (by omega))|(with_reducible apply bU (c:=false));rfl;rfl;(exact cb (by omega)))
  ((refine bn rfl (bb rfl aM) ?_))
  first|exact ag.aW.refl _|exact ag.aW.of_eq (by rw[cd q4];rfl)|exact ag.aW.of_eq (by rw[cb q4];rfl)
def Gk(p1 p2 a1 a2 b1 b2:Int):Bool:=eE p1 p2&&eE a1 a2&&eE b1 b2&&cZ (hR a1 b1) (hR a2 b2) (hQ a1 b1) (hQ a2 b2) p1 p2&&decide (cm a1 a2 b1 b2 p1 p2=0)
theorem akP{n:Int}:sW n=0↔n=0:=by unfold sW;repeat' split <;> omega
theorem ahX{p1 p2 a1 a2 b1 b2:Int}{b:Bool}(aa:Gk p1 p2 a1 a2 b1 b2=b):aP ah 278 [bm p1 p2,bm a1 a2,bm b1 b2] (bl b):=by
 have R1:=tZ (x:=p1) (y:=p2) rfl;have dR:=tZ (x:=a1) (y:=a2) rfl;have lQ:=tZ (x:=b1) (y:=b2) rfl;have H1:=ahC (a1:=a1) (a2:=a2) (b1:=b1) (b2:=b2);have dK:=ahL (l1:=hR a1 b1) (l2:=hR a2 b2) (h1:=hQ a1 b1) (h2:=hQ a2 b2) (p1:=p1) (p2:=p2) rfl;have wo:=ah2 (o1:=a1) (o2:=a2) (a1:=b1) (a2:=b2) (b1:=p1) (b2:=p2);unfold Gk at aa
 have cs:(eE p1 p2=false∧b=false)∨(eE p1 p2=true∧eE a1 a2=false∧b=false)∨(eE p1 p2=true∧eE a1 a2=true∧eE b1 b2=false∧b=false)
   ∨ (eE p1 p2=true∧eE a1 a2=true∧eE b1 b2=true∧cZ (hR a1 b1) (hR a2 b2) (hQ a1 b1) (hQ a2 b2) p1 p2=false∧b=false)
   ∨ (eE p1 p2=true∧eE a1 a2=true∧eE b1 b2=true∧cZ (hR a1 b1) (hR a2 b2) (hQ a1 b1) (hQ a2 b2) p1 p2=true∧b=decide (sW (tj a1 a2 b1 b2 p1 p2)=0)):=by
  have e:decide (sW (tj a1 a2 b1 b2 p1 p2)=0)=decide (tj a1 a2 b1 b2 p1 p2=0):=by rw[o7,cV,cV,akP]
  rw[e];unfold tj;generalize cm a1 a2 b1 b2 p1 p2=c at *;generalize eE p1 p2=db at *;generalize eE a1 a2=di at *;generalize eE b1 b2=lj at *;generalize cZ _ _ _ _ p1 p2=n3 at *;cases db <;> cases di <;> cases lj <;> cases n3 <;> simp_all
 clear aa;generalize cZ _ _ _ _ p1 p2=n3 at *;generalize hR a1 b1=i1 at *;generalize hR a2 b2=i2 at *;generalize hQ a1 b1=i3 at *;generalize hQ a2 b2=i4 at *;generalize sW (tj a1 a2 b1 b2 p1 p2)=t at *;rcases cs with ⟨h1,rfl⟩|⟨h1,h2,rfl⟩|⟨h1,h2,ar,rfl⟩|⟨h1,h2,ar,rfl,rfl⟩|⟨h1,h2,ar,rfl,rfl⟩ <;> simp only[*] at R1 dR lQ
 all_goals
  refine bq (f:=278) Tryz.func278 rfl rfl rfl rfl ?_;(refine cR ?_)
  ((refine bn rfl (bb rfl aM) ?_))
  exact ag.aW.refl _
end Go.Proofs.YtklpfooafbjnpaaGreat
namespace Go.Proofs.YtklpfooafbjnpaaGreat
def c6(x y:Int):Bool:=decide (x≤134217728)&&decide (y≤134217728)&&decide (-134217728≤x)&&decide (-134217728≤y)
theorem uj{x y:Int}:c6 x y=true↔(-134217728≤x∧x≤134217728) ∧ -134217728≤y∧y≤134217728:=by
  unfold c6;simp only[ef,cV];omega
def dO(a1 a2 b1 b2:Int):Prop:=a1<b1∨(a1=b1∧a2≤b2)
instance (a1 a2 b1 b2:Int):Decidable (dO a1 a2 b1 b2):=by unfold dO;exact inferInstance
theorem dO.LS{a1 a2:Int}:dO a1 a2 a1 a2 := .inr ⟨rfl,o6 _⟩
theorem dO.trans{a1 a2 b1 b2 c1 c2:Int}(h:dO a1 a2 b1 b2)(k:dO b1 b2 c1 c2):dO a1 a2 c1 c2:=by unfold dO at *;omega
theorem dO.total(a1 a2 b1 b2:Int):dO a1 a2 b1 b2∨dO b1 b2 a1 a2:=by unfold dO;omega
theorem dO.D5{a1 a2 b1 b2:Int}(h:dO a1 a2 b1 b2)(k:dO b1 b2 a1 a2):a1=b1∧a2=b2:=by unfold dO at *;omega
def tM(p1 p2 a1 a2 b1 b2:Int):Prop:=hR a1 b1≤p1∧p1≤hQ a1 b1∧hR a2 b2≤p2∧p2≤hQ a2 b2
theorem Oc{s1 s2 t1 t2 p1 p2:Int}(hx:dO s1 s2 t1 t2)(ak:cm s1 s2 t1 t2 p1 p2=0):tM p1 p2 s1 s2 t1 t2↔dO s1 s2 p1 p2∧dO p1 p2 t1 t2:=by
  unfold cm at ak;have nF:(t1-s1)*(p2-s2)=(t2-s2)*(p1-s1):=by omega
  unfold tM hR hQ dO at *
  by_cases h1:s1=t1
  · subst h1
    have e:(t2-s2)*(p1-s1)=0:=by rw[←nF];simp
    rcases ug.1 e with e|e
    · constructor
      · intro h;split at h <;> (try split at h) <;> (try split at h) <;> (try split at h) <;> omega
      · intro h;split <;> (try split) <;> (try split) <;> (try split) <;> omega
    · constructor
      · intro h;split at h <;> (try split at h) <;> (try split at h) <;> (try split at h) <;> omega
      · intro h;split <;> (try split) <;> (try split) <;> (try split) <;> omega
  · have h2:s1<t1:=by omega
    have hd:0<t1-s1:=by omega
    rw[if_neg (show ¬t1<s1 by omega),if_pos (show t1>s1 by omega)]
   
    have key:s1≤p1→p1≤t1→(if t2<s2 then t2 else s2)≤p2∧p2≤(if t2>s2 then t2 else s2):=by
      intro bx cl
      by_cases g:t2<s2
      · rw[if_pos g,if_neg (by omega)]
        have a1:(t2-s2)*(t1-s1)≤(t2-s2)*(p1-s1):=Int.mul_le_mul_of_nonpos_left (by omega) (by omega);have a2:(t2-s2)*(p1-s1)≤0:=Int.mul_nonpos_of_nonpos_of_nonneg (by omega) (by omega);rw[←nF] at a1 a2;rw[k9 (t2-s2)] at a1;have b1:=Int.le_of_mul_le_mul_left a1 hd
        have b2:p2-s2≤0:=by
          have:(t1-s1)*(p2-s2)≤(t1-s1)*0:=by omega
          exact Int.le_of_mul_le_mul_left this hd
        omega
      · rw[if_neg g]
        have a1:(t2-s2)*(p1-s1)≤(t2-s2)*(t1-s1):=sO (by omega) (by omega);have a2:0≤(t2-s2)*(p1-s1):=h0 (by omega) (by omega);rw[←nF] at a1 a2;rw[k9 (t2-s2)] at a1;have b1:=Int.le_of_mul_le_mul_left a1 hd
        have b2:0≤p2-s2:=by
          have:(t1-s1)*0≤(t1-s1)*(p2-s2):=by omega
          exact Int.le_of_mul_le_mul_left this hd
        split <;> omega
    constructor
    · rintro⟨bx,cl,jM,lF⟩
      constructor
      · by_cases g:s1<p1
        · exact .inl g
        · right
          have:p1=s1:=by omega
          subst this;have:(t1-p1)*(p2-s2)=0:=by rw[nF];simp
          rcases ug.1 this with e|e <;> omega
      · by_cases g:p1<t1
        · exact .inl g
        · right
          have:p1=t1:=by omega
          subst this;rw[k9 (t2-s2)] at nF;have:=Int.eq_of_mul_eq_mul_left (show p1-s1≠0 by omega) nF;omega
    · rintro⟨bx,cl⟩
      have KI:s1≤p1:=by omega
      have KJ:p1≤t1:=by omega
      exact⟨KI,KJ,(key KI KJ).1,(key KI KJ).2⟩
def dL(p1 p2 s1 s2 t1 t2:Int):Prop:=cm s1 s2 t1 t2 p1 p2=0∧tM p1 p2 s1 s2 t1 t2
theorem xr{s1 s2 t1 t2 p1 p2:Int}(hx:dO s1 s2 t1 t2):dL p1 p2 s1 s2 t1 t2↔cm s1 s2 t1 t2 p1 p2=0∧dO s1 s2 p1 p2∧dO p1 p2 t1 t2:=by
  unfold dL
  constructor
  · rintro⟨h,k⟩;exact⟨h,(Oc hx h).1 k⟩
  · rintro⟨h,k⟩;exact⟨h,(Oc hx h).2 k⟩
theorem Iw(a1 a2 b1 b2:Int):cm a1 a2 b1 b2 a1 a2=0:=by unfold cm;grind
theorem OG(a1 a2 b1 b2:Int):cm a1 a2 b1 b2 b1 b2=0:=by unfold cm;grind
theorem vx{s1 s2 t1 t2:Int}(hx:dO s1 s2 t1 t2):dL s1 s2 s1 s2 t1 t2:=(xr hx).2 ⟨Iw ..,.LS,hx⟩
theorem vw{s1 s2 t1 t2:Int}(hx:dO s1 s2 t1 t2):dL t1 t2 s1 s2 t1 t2:=(xr hx).2 ⟨OG ..,hx,.LS⟩
theorem Ct{p1 p2 s1 s2:Int}(h:dL p1 p2 s1 s2 s1 s2):p1=s1∧p2=s2:=by
  obtain⟨_,h1,h2⟩:=(xr dO.LS).1 h;have:=dO.D5 h1 h2;omega
def qy(s1 s2 bY b9 t1 t2 t3 t4:Int):Int:=(bY-s1)*(t4-t2)-(b9-s2)*(t3-t1)
theorem vz{s1 s2 bY b9 t1 t2 t3 t4 p1 p2 cn dQ:Int}(hs:dO s1 s2 bY b9)(aE:dO t1 t2 t3 t4)(hw:qy s1 s2 bY b9 t1 t2 t3 t4=0)
    (ps:dL p1 p2 s1 s2 bY b9) (qA:dL p1 p2 t1 t2 t3 t4) (rH:dL cn dQ s1 s2 bY b9) (hG:dO t1 t2 cn dQ) (aju:dO cn dQ t3 t4):dL cn dQ t1 t2 t3 t4:=by
  by_cases hd:s1=bY∧s2=b9
  · obtain⟨rfl,rfl⟩:=hd
    obtain⟨rfl,rfl⟩:=Ct ps;obtain⟨rfl,rfl⟩:=Ct rH;exact qA
  · refine(xr aE).2 ⟨?_,hG,aju⟩
    have a:=ps.1;have b:=qA.1;have c:=rH.1;unfold cm qy at *;have d1:(bY-s1)*((t3-t1)*(dQ-t2)-(t4-t2)*(cn-t1))=0:=by grind
    have d2:(b9-s2)*((t3-t1)*(dQ-t2)-(t4-t2)*(cn-t1))=0:=by grind
    rcases ug.1 d1 with e|e
    · rcases ug.1 d2 with f|f
      · omega
      · exact f
    · exact e
theorem Od{x y A B D:Int}(e8:0<D)(e:D=A-B):(hR x y*D≤y*A-x*B∧y*A-x*B≤hQ x y*D)↔(x=y∨(B≤0∧0≤A)):=by
  subst e;unfold hR hQ
  by_cases h:x=y
  · subst h
    have:x*(A-B)=x*A-x*B:=Int.mul_sub ..;simp[this]
  · have pos:∀ {u v:Int},0<u→(0≤u*v↔0≤v):=by
      intro u v hu
      constructor
      · intro k
        have k':u*0≤u*v:=by omega
        exact Int.le_of_mul_le_mul_left k' hu
      · intro k;exact h0 (by omega) k
    by_cases g:x<y
    · rw[if_neg (by omega),if_pos (show y>x from g)]
      have hu:0<y-x:=by omega
      have aI:y*A-x*B-x*(A-B)=(y-x)*A:=by grind
      have aO:y*(A-B)-(y*A-x*B)=(y-x)*(-B):=by grind
      have p1:=pos (v:=A) hu;have p2:=pos (v := -B) hu;omega
    · rw[if_pos (by omega),if_neg (by omega)]
      have hu:0<x-y:=by omega
      have aI:x*(A-B)-(y*A-x*B)=(x-y)*A:=by grind
      have aO:y*A-x*B-y*(A-B)=(x-y)*(-B):=by grind
      have p1:=pos (v:=A) hu;have p2:=pos (v := -B) hu;omega
def mf(n d a b:Int):Prop:=hR a b*d≤n∧n≤hQ a b*d
theorem Ei{x y u v A B D:Int}(e8:0<D)(e:D=A-B)(cr:¬(x=y∧u=v)):(mf (y*A-x*B) D x y∧mf (v*A-u*B) D u v)↔(B≤0∧0≤A):=by
  unfold mf;rw[Od e8 e,Od e8 e];omega
theorem tg{n d a b:Int}:mf n d a b↔mf n d b a:=by
  unfold mf hR hQ
  by_cases h:a=b
  · subst h;rfl
  · by_cases g:a<b
    · rw[if_neg (by omega),if_pos (show b>a from g),if_pos g,if_neg (by omega)]
    · rw[if_pos (show b<a by omega),if_neg (by omega),if_neg g,if_pos (by omega)]
structure ga where
  k:Int
  n:Int
  d:Int
  m:Int
  e:Int
  p1:Int
  p2:Int
  q1:Int
  q2:Int
def iY:ga:=⟨0,0,0,0,0,0,0,0,0⟩
def kf(n d m e:Int):ga:=⟨1,n,d,m,e,0,0,0,0⟩
def uG(p1 p2 q1 q2:Int):ga:=⟨2,0,0,0,0,p1,p2,q1,q2⟩
def kI(n d:Int):Int:=if d<0 then -n else n
def jP(d:Int):Int:=if d<0 then -d else d
theorem sD{d:Int}(h:d≠0)(n:Int):kI (-n) (-d)=kI n d:=by unfold kI;split <;> split <;> omega
theorem Cq(d:Int):jP (-d)=jP d:=by unfold jP;split <;> split <;> omega
theorem SJ{d:Int}(h:d≠0):0<jP d:=by unfold jP;split <;> omega
def k3(a1 a2 b1 b2 c1 c2 d1 d2:Int):Int:=((b2-a2)*a1+(a1-b1)*a2)*(c1-d1)-(a1-b1)*((d2-c2)*c1+(c1-d1)*c2)
def k4(a1 a2 b1 b2 c1 c2 d1 d2:Int):Int:=(b2-a2)*((d2-c2)*c1+(c1-d1)*c2)-((b2-a2)*a1+(a1-b1)*a2)*(d2-c2)
def dx(a1 a2 b1 b2 c1 c2 d1 d2:Int):Int:=(b2-a2)*(c1-d1)-(a1-b1)*(d2-c2)
theorem V6(a1 a2 b1 b2 c1 c2 d1 d2:Int):dx a1 a2 b1 b2 c1 c2 d1 d2=qy a1 a2 b1 b2 c1 c2 d1 d2:=by unfold dx qy;grind
section
variable(a1 a2 b1 b2 c1 c2 d1 d2:Int)
theorem Hj:dx b1 b2 a1 a2 c1 c2 d1 d2 = - dx a1 a2 b1 b2 c1 c2 d1 d2:=by unfold dx;grind
theorem Dh:dx a1 a2 b1 b2 d1 d2 c1 c2 = - dx a1 a2 b1 b2 c1 c2 d1 d2:=by unfold dx;grind
theorem Hk:dx c1 c2 d1 d2 a1 a2 b1 b2 = - dx a1 a2 b1 b2 c1 c2 d1 d2:=by unfold dx;grind
theorem agN:k3 b1 b2 a1 a2 c1 c2 d1 d2 = - k3 a1 a2 b1 b2 c1 c2 d1 d2:=by unfold k3;grind
theorem agO:k3 a1 a2 b1 b2 d1 d2 c1 c2 = - k3 a1 a2 b1 b2 c1 c2 d1 d2:=by unfold k3;grind
theorem Sw:k3 c1 c2 d1 d2 a1 a2 b1 b2 = - k3 a1 a2 b1 b2 c1 c2 d1 d2:=by unfold k3;grind
theorem agP:k4 b1 b2 a1 a2 c1 c2 d1 d2 = - k4 a1 a2 b1 b2 c1 c2 d1 d2:=by unfold k4;grind
theorem agQ:k4 a1 a2 b1 b2 d1 d2 c1 c2 = - k4 a1 a2 b1 b2 c1 c2 d1 d2:=by unfold k4;grind
theorem Sx:k4 c1 c2 d1 d2 a1 a2 b1 b2 = - k4 a1 a2 b1 b2 c1 c2 d1 d2:=by unfold k4;grind
theorem Le:c1*cm a1 a2 b1 b2 d1 d2-d1*cm a1 a2 b1 b2 c1 c2=k3 a1 a2 b1 b2 c1 c2 d1 d2:=by unfold k3 cm;grind
theorem Lf:c2*cm a1 a2 b1 b2 d1 d2-d2*cm a1 a2 b1 b2 c1 c2=k4 a1 a2 b1 b2 c1 c2 d1 d2:=by unfold k4 cm;grind
theorem ME:cm a1 a2 b1 b2 d1 d2-cm a1 a2 b1 b2 c1 c2=dx a1 a2 b1 b2 c1 c2 d1 d2:=by unfold dx cm;grind
end
def four(a1 a2 b1 b2 c1 c2 d1 d2 x y d:Int):Prop:=mf x d a1 b1∧mf y d a2 b2∧mf x d c1 d1∧mf y d c2 d2
instance (n d a b:Int):Decidable (mf n d a b):=by unfold mf;exact inferInstance
instance (a1 a2 b1 b2 c1 c2 d1 d2 x y d:Int):Decidable (four a1 a2 b1 b2 c1 c2 d1 d2 x y d):=by unfold four;exact inferInstance
theorem B2{α:Type}{p q:Prop} [Decidable p] [Decidable q]{a b:α}(h:p↔q):(if p then a else b)=if q then a else b:=by
  by_cases k:p
  · rw[if_pos k,if_pos (h.1 k)]
  · rw[if_neg k,if_neg fun g=>k (h.2 g)]
def vq(a1 a2 b1 b2 c1 c2 d1 d2 x y d:Int):ga:=if four a1 a2 b1 b2 c1 c2 d1 d2 x y d then kf x d y d else iY
def oB(a1 a2 b1 b2 c1 c2 d1 d2:Int):ga :=
  vq a1 a2 b1 b2 c1 c2 d1 d2 (kI (k3 a1 a2 b1 b2 c1 c2 d1 d2) (dx a1 a2 b1 b2 c1 c2 d1 d2)) (kI (k4 a1 a2 b1 b2 c1 c2 d1 d2) (dx a1 a2 b1 b2 c1 c2 d1 d2)) (jP (dx a1 a2 b1 b2 c1 c2 d1 d2))
theorem agh{a1 a2 b1 b2 c1 c2 d1 d2:Int}(h:dx a1 a2 b1 b2 c1 c2 d1 d2≠0):oB b1 b2 a1 a2 c1 c2 d1 d2=oB a1 a2 b1 b2 c1 c2 d1 d2:=by
  unfold oB;rw[Hj,agN,agP,sD h,sD h,Cq];unfold vq four;exact B2 (by rw[tg (a:=b1),tg (a:=b2)])
theorem agi{a1 a2 b1 b2 c1 c2 d1 d2:Int}(h:dx a1 a2 b1 b2 c1 c2 d1 d2≠0):oB a1 a2 b1 b2 d1 d2 c1 c2=oB a1 a2 b1 b2 c1 c2 d1 d2:=by
  unfold oB;rw[Dh,agO,agQ,sD h,sD h,Cq];unfold vq four;exact B2 (by rw[tg (a:=d1),tg (a:=d2)])
theorem agj{a1 a2 b1 b2 c1 c2 d1 d2:Int}(h:dx a1 a2 b1 b2 c1 c2 d1 d2≠0):oB c1 c2 d1 d2 a1 a2 b1 b2=oB a1 a2 b1 b2 c1 c2 d1 d2:=by
  unfold oB;rw[Hk,Sw,Sx,sD h,sD h,Cq];unfold vq four;refine B2 ?_
  constructor
  · rintro⟨h1,h2,ar,aJ⟩;exact⟨ar,aJ,h1,h2⟩
  · rintro⟨h1,h2,ar,aJ⟩;exact⟨ar,aJ,h1,h2⟩
def same(m n:Int):Prop:=(0<m∧0<n)∨(m<0∧n<0)
instance (m n:Int):Decidable (same m n):=by unfold same;exact inferInstance
theorem V5{a1 a2 b1 b2 c1 c2 d1 d2:Int}(h:dx a1 a2 b1 b2 c1 c2 d1 d2≠0):¬(a1=b1∧a2=b2)∧¬(c1=d1∧c2=d2):=by
  refine⟨?_,?_⟩
  · rintro⟨rfl,rfl⟩;apply h;unfold dx;simp
  · rintro⟨rfl,rfl⟩;apply h;unfold dx;simp
theorem Vs{a1 a2 b1 b2 c1 c2 d1 d2:Int}(h:dx a1 a2 b1 b2 c1 c2 d1 d2≠0) :
    (mf (kI (k3 a1 a2 b1 b2 c1 c2 d1 d2) (dx a1 a2 b1 b2 c1 c2 d1 d2)) (jP (dx a1 a2 b1 b2 c1 c2 d1 d2)) c1 d1∧mf (kI (k4 a1 a2 b1 b2 c1 c2 d1 d2) (dx a1 a2 b1 b2 c1 c2 d1 d2)) (jP (dx a1 a2 b1 b2 c1 c2 d1 d2)) c2 d2)↔¬same (cm a1 a2 b1 b2 c1 c2) (cm a1 a2 b1 b2 d1 d2):=by
  have cr:=(V5 h).2;have aI:=Le a1 a2 b1 b2 c1 c2 d1 d2;have aO:=Lf a1 a2 b1 b2 c1 c2 d1 d2;have cf:=ME a1 a2 b1 b2 c1 c2 d1 d2;generalize k3 a1 a2 b1 b2 c1 c2 d1 d2=X at *;generalize k4 a1 a2 b1 b2 c1 c2 d1 d2=Y at *;generalize dx a1 a2 b1 b2 c1 c2 d1 d2=w at *;generalize cm a1 a2 b1 b2 c1 c2=C at *;generalize cm a1 a2 b1 b2 d1 d2=D at *;unfold kI jP same
  by_cases g:w<0
  · rw[if_pos g,if_pos g,if_pos g,tg (a:=c1),tg (a:=c2)]
    have ba:=Ei (x:=d1) (y:=c1) (u:=d2) (v:=c2) (A := -D) (B := -C) (D := -w) (by omega) (by omega) (by omega);have f1:c1 * -D-d1 * -C = -X:=by rw[←aI];simp only[Int.mul_neg];omega
    have f2:c2 * -D-d2 * -C = -Y:=by rw[←aO];simp only[Int.mul_neg];omega
    rw[f1,f2] at ba;rw[ba];omega
  · rw[if_neg g,if_neg g,if_neg g,tg (a:=c1),tg (a:=c2)]
    have ba:=Ei (x:=d1) (y:=c1) (u:=d2) (v:=c2) (A:=D) (B:=C) (D:=w) (by omega) (by omega) (by omega);rw[aI,aO] at ba;rw[ba];omega
theorem akY{a1 a2 b1 b2 c1 c2 d1 d2:Int}(h:dx a1 a2 b1 b2 c1 c2 d1 d2≠0) :
    (mf (kI (k3 a1 a2 b1 b2 c1 c2 d1 d2) (dx a1 a2 b1 b2 c1 c2 d1 d2)) (jP (dx a1 a2 b1 b2 c1 c2 d1 d2)) a1 b1∧mf (kI (k4 a1 a2 b1 b2 c1 c2 d1 d2) (dx a1 a2 b1 b2 c1 c2 d1 d2)) (jP (dx a1 a2 b1 b2 c1 c2 d1 d2)) a2 b2)↔¬same (cm c1 c2 d1 d2 a1 a2) (cm c1 c2 d1 d2 b1 b2):=by
  have aK:dx c1 c2 d1 d2 a1 a2 b1 b2≠0:=by rw[Hk];omega
  have:=Vs aK;rw[Sw,Sx,Hk,sD h,sD h,Cq] at this;exact this
theorem aaW{a1 a2 b1 b2 c1 c2 d1 d2:Int}(h:dx a1 a2 b1 b2 c1 c2 d1 d2≠0) :
    four a1 a2 b1 b2 c1 c2 d1 d2 (kI (k3 a1 a2 b1 b2 c1 c2 d1 d2) (dx a1 a2 b1 b2 c1 c2 d1 d2)) (kI (k4 a1 a2 b1 b2 c1 c2 d1 d2) (dx a1 a2 b1 b2 c1 c2 d1 d2)) (jP (dx a1 a2 b1 b2 c1 c2 d1 d2))↔¬(same (cm a1 a2 b1 b2 c1 c2) (cm a1 a2 b1 b2 d1 d2)∨same (cm c1 c2 d1 d2 a1 a2) (cm c1 c2 d1 d2 b1 b2)):=by
  unfold four;have p:=Vs h;have q:=akY h
  constructor
  · rintro⟨h1,h2,ar,aJ⟩ (g|g)
    · exact p.1 ⟨ar,aJ⟩ g
    · exact q.1 ⟨h1,h2⟩ g
  · intro g
    obtain⟨ar,aJ⟩:=p.2 fun k=>g (.inl k);obtain⟨h1,h2⟩:=q.2 fun k=>g (.inr k);exact⟨h1,h2,ar,aJ⟩
def eY(a1 a2 b1 b2:Int):Int:=if dO a1 a2 b1 b2 then a1 else b1
def eG(a1 a2 b1 b2:Int):Int:=if dO a1 a2 b1 b2 then a2 else b2
def er(a1 a2 b1 b2:Int):Int:=if dO a1 a2 b1 b2 then b1 else a1
def ej(a1 a2 b1 b2:Int):Int:=if dO a1 a2 b1 b2 then b2 else a2
theorem oT(a1 a2 b1 b2:Int):(eY a1 a2 b1 b2=a1∧eG a1 a2 b1 b2=a2∧er a1 a2 b1 b2=b1∧ej a1 a2 b1 b2=b2∧dO a1 a2 b1 b2)∨(eY a1 a2 b1 b2=b1∧eG a1 a2 b1 b2=b2∧er a1 a2 b1 b2=a1∧ej a1 a2 b1 b2=a2∧dO b1 b2 a1 a2):=by
  unfold eY eG er ej
  by_cases h:dO a1 a2 b1 b2
  · simp[h]
  · simp[h,(dO.total a1 a2 b1 b2).resolve_left h]
theorem yZ(a1 a2 b1 b2:Int):dO (eY a1 a2 b1 b2) (eG a1 a2 b1 b2) (er a1 a2 b1 b2) (ej a1 a2 b1 b2):=by
  rcases oT a1 a2 b1 b2 with ⟨h1,h2,ar,aJ,h⟩|⟨h1,h2,ar,aJ,h⟩ <;> rw[h1,h2,ar,aJ] <;> exact h
theorem RW(a1 a2 b1 b2:Int):eY b1 b2 a1 a2=eY a1 a2 b1 b2∧eG b1 b2 a1 a2=eG a1 a2 b1 b2∧er b1 b2 a1 a2=er a1 a2 b1 b2∧ej b1 b2 a1 a2=ej a1 a2 b1 b2:=by
  rcases oT a1 a2 b1 b2 with ⟨h1,h2,ar,aJ,h⟩|⟨h1,h2,ar,aJ,h⟩ <;> rcases oT b1 b2 a1 a2 with ⟨bx,cl,jM,lF,k⟩|⟨bx,cl,jM,lF,k⟩ <;> rw[h1,h2,ar,aJ,bx,cl,jM,lF] <;> (try have:=dO.D5 h k) <;> simp_all
theorem Cs{p1 p2 a1 a2 b1 b2:Int}:dL p1 p2 b1 b2 a1 a2↔dL p1 p2 a1 a2 b1 b2:=by
  unfold dL tM;have e:cm b1 b2 a1 a2 p1 p2 = - cm a1 a2 b1 b2 p1 p2:=by unfold cm;grind
  have m:∀x y:Int,hR x y=hR y x:=fun x y=>by unfold hR;split <;> split <;> omega
  have n:∀x y:Int,hQ x y=hQ y x:=fun x y=>by unfold hQ;split <;> split <;> omega
  rw[e,m a1,m a2,n a1,n a2]
  constructor <;> rintro⟨h,k⟩ <;> exact⟨by omega,k⟩
instance (p1 p2 a1 a2 b1 b2:Int):Decidable (tM p1 p2 a1 a2 b1 b2):=by unfold tM;exact inferInstance
instance (p1 p2 a1 a2 b1 b2:Int):Decidable (dL p1 p2 a1 a2 b1 b2):=by unfold dL;exact inferInstance
theorem Cu{p1 p2 a1 a2 b1 b2:Int}:dL p1 p2 (eY a1 a2 b1 b2) (eG a1 a2 b1 b2) (er a1 a2 b1 b2) (ej a1 a2 b1 b2)↔dL p1 p2 a1 a2 b1 b2:=by
  rcases oT a1 a2 b1 b2 with ⟨h1,h2,ar,aJ,h⟩|⟨h1,h2,ar,aJ,h⟩ <;> rw[h1,h2,ar,aJ];exact Cs
theorem ai1{s1 s2 bY b9 t1 t2 t3 t4:Int}:qy t1 t2 t3 t4 s1 s2 bY b9 = - qy s1 s2 bY b9 t1 t2 t3 t4:=by unfold qy;grind
theorem RX{s1 s2 bY b9 t1 t2 t3 t4 p1 p2:Int}(hs:dO s1 s2 bY b9)(aE:dO t1 t2 t3 t4)(hw:qy s1 s2 bY b9 t1 t2 t3 t4=0)(ps:dL p1 p2 s1 s2 bY b9)(qA:dL p1 p2 t1 t2 t3 t4) :
    dL (er s1 s2 t1 t2) (ej s1 s2 t1 t2) s1 s2 bY b9∧dL (er s1 s2 t1 t2) (ej s1 s2 t1 t2) t1 t2 t3 t4∧dL (eY bY b9 t3 t4) (eG bY b9 t3 t4) s1 s2 bY b9∧dL (eY bY b9 t3 t4) (eG bY b9 t3 t4) t1 t2 t3 t4
    ∧ dO (er s1 s2 t1 t2) (ej s1 s2 t1 t2) p1 p2∧dO p1 p2 (eY bY b9 t3 t4) (eG bY b9 t3 t4):=by
  obtain⟨_,eg,zz⟩:=(xr hs).1 ps;obtain⟨_,t0,t9⟩:=(xr aE).1 qA;have nL:qy t1 t2 t3 t4 s1 s2 bY b9=0:=by rw[ai1];omega
  rcases oT s1 s2 t1 t2 with ⟨_,_,ar,aJ,h⟩|⟨_,_,ar,aJ,h⟩ <;> rcases oT bY b9 t3 t4 with ⟨bx,cl,_,_,k⟩|⟨bx,cl,_,_,k⟩ <;> rw[ar,aJ,bx,cl]
  · exact⟨vz aE hs nL qA ps (vx aE) h (t0.trans zz),vx aE,vw hs,vz hs aE hw ps qA (vw hs) (t0.trans zz) k,t0,zz⟩
  · exact⟨vz aE hs nL qA ps (vx aE) h (t0.trans zz),vx aE,vz aE hs nL qA ps (vw aE) (eg.trans t9) k,vw aE,t0,t9⟩
  · exact⟨vx hs,vz hs aE hw ps qA (vx hs) h (eg.trans t9),vw hs,vz hs aE hw ps qA (vw hs) (t0.trans zz) k,eg,zz⟩
  · exact⟨vx hs,vz hs aE hw ps qA (vx hs) h (eg.trans t9),vz aE hs nL qA ps (vw aE) (eg.trans t9) k,vw aE,eg,t9⟩
def xb(f1 f2 g1 g2:Int):ga:=if f1=g1∧f2=g2 then kf f1 1 f2 1 else uG f1 f2 g1 g2
def inl(s1 s2 bY b9 t1 t2 t3 t4:Int):ga :=
  if dL (er s1 s2 t1 t2) (ej s1 s2 t1 t2) s1 s2 bY b9∧dL (er s1 s2 t1 t2) (ej s1 s2 t1 t2) t1 t2 t3 t4 then xb (er s1 s2 t1 t2) (ej s1 s2 t1 t2) (eY bY b9 t3 t4) (eG bY b9 t3 t4) else iY
def xc(a1 a2 b1 b2 c1 c2 d1 d2:Int):ga:=inl (eY a1 a2 b1 b2) (eG a1 a2 b1 b2) (er a1 a2 b1 b2) (ej a1 a2 b1 b2) (eY c1 c2 d1 d2) (eG c1 c2 d1 d2) (er c1 c2 d1 d2) (ej c1 c2 d1 d2)
def jC(a1 a2 b1 b2 c1 c2 d1 d2:Int):ga:=if dx a1 a2 b1 b2 c1 c2 d1 d2=0 then xc a1 a2 b1 b2 c1 c2 d1 d2 else oB a1 a2 b1 b2 c1 c2 d1 d2
theorem Sd(a1 a2 b1 b2 c1 c2 d1 d2:Int):jC b1 b2 a1 a2 c1 c2 d1 d2=jC a1 a2 b1 b2 c1 c2 d1 d2:=by
  unfold jC;obtain⟨h1,h2,ar,aJ⟩:=RW a1 a2 b1 b2
  by_cases h:dx a1 a2 b1 b2 c1 c2 d1 d2=0
  · rw[if_pos (by rw[Hj];omega),if_pos h];unfold xc;rw[h1,h2,ar,aJ]
  · rw[if_neg (by rw[Hj];omega),if_neg h,agh h]
theorem Se(a1 a2 b1 b2 c1 c2 d1 d2:Int):jC a1 a2 b1 b2 d1 d2 c1 c2=jC a1 a2 b1 b2 c1 c2 d1 d2:=by
  unfold jC;obtain⟨h1,h2,ar,aJ⟩:=RW c1 c2 d1 d2
  by_cases h:dx a1 a2 b1 b2 c1 c2 d1 d2=0
  · rw[if_pos (by rw[Dh];omega),if_pos h];unfold xc;rw[h1,h2,ar,aJ]
  · rw[if_neg (by rw[Dh];omega),if_neg h,agi h]
theorem agl(a1 a2 b1 b2 c1 c2 d1 d2:Int):jC (eY a1 a2 b1 b2) (eG a1 a2 b1 b2) (er a1 a2 b1 b2) (ej a1 a2 b1 b2) (eY c1 c2 d1 d2) (eG c1 c2 d1 d2) (er c1 c2 d1 d2) (ej c1 c2 d1 d2)=jC a1 a2 b1 b2 c1 c2 d1 d2:=by
  rcases oT a1 a2 b1 b2 with ⟨h1,h2,ar,aJ,_⟩|⟨h1,h2,ar,aJ,_⟩ <;> rcases oT c1 c2 d1 d2 with ⟨bx,cl,jM,lF,_⟩|⟨bx,cl,jM,lF,_⟩ <;> rw[h1,h2,ar,aJ,bx,cl,jM,lF]
  · rw[Se]
  · rw[Sd]
  · rw[Sd,Se]
def K0(s1 s2 bY b9 t1 t2 t3 t4 A B C D:Int):ga :=
  if A=B then inl s1 s2 bY b9 t1 t2 t3 t4
  else if same A B∨same C D then iY
  else kf (kI (t3*A-t1*B) (A-B)) (jP (A-B)) (kI (t4*A-t2*B) (A-B)) (jP (A-B))
theorem R8{s1 s2 bY b9:Int}(h:dO s1 s2 bY b9):eY s1 s2 bY b9=s1∧eG s1 s2 bY b9=s2∧er s1 s2 bY b9=bY∧ej s1 s2 bY b9=b9:=by
  unfold eY eG er ej;simp[h]
theorem agk{s1 s2 bY b9 t1 t2 t3 t4:Int}(hs:dO s1 s2 bY b9)(aE:dO t1 t2 t3 t4) :
    K0 s1 s2 bY b9 t1 t2 t3 t4 (cm s1 s2 bY b9 t1 t2) (cm s1 s2 bY b9 t3 t4) (cm t1 t2 t3 t4 s1 s2) (cm t1 t2 t3 t4 bY b9)=jC s1 s2 bY b9 t1 t2 t3 t4:=by
  have aI:=Le s1 s2 bY b9 t1 t2 t3 t4;have aO:=Lf s1 s2 bY b9 t1 t2 t3 t4;have cf:=ME s1 s2 bY b9 t1 t2 t3 t4;unfold K0 jC
  by_cases h:dx s1 s2 bY b9 t1 t2 t3 t4=0
  · rw[if_pos (by omega),if_pos h]
    unfold xc;obtain⟨h1,h2,ar,aJ⟩:=R8 hs;obtain⟨bx,cl,jM,lF⟩:=R8 aE;rw[h1,h2,ar,aJ,bx,cl,jM,lF]
  · rw[if_neg (by omega),if_neg h]
    have f:=aaW h;have g1:t3*cm s1 s2 bY b9 t1 t2-t1*cm s1 s2 bY b9 t3 t4 = - k3 s1 s2 bY b9 t1 t2 t3 t4:=by omega
    have g2:t4*cm s1 s2 bY b9 t1 t2-t2*cm s1 s2 bY b9 t3 t4 = - k4 s1 s2 bY b9 t1 t2 t3 t4:=by omega
    have g3:cm s1 s2 bY b9 t1 t2-cm s1 s2 bY b9 t3 t4 = - dx s1 s2 bY b9 t1 t2 t3 t4:=by omega
    rw[g1,g2,g3,sD h,sD h,Cq];unfold oB vq
    by_cases q:same (cm s1 s2 bY b9 t1 t2) (cm s1 s2 bY b9 t3 t4)∨same (cm t1 t2 t3 t4 s1 s2) (cm t1 t2 t3 t4 bY b9)
    · rw[if_pos q,if_neg fun k=>f.1 k q]
    · rw[if_neg q,if_pos (f.2 q)]
structure iQ where
 n:Int
 d:Int
 own:Bool
structure Pa where
 f:iQ
 t:iQ
def iD(x y:iQ):Int:=fo (x.n*y.d) (y.n*x.d)
def sw(x y:iQ):iQ:=if 0<iD x y∨(iD x y=0∧y.own=true) then x else y
def r6(x y:iQ):iQ:=if iD x y<0∨(iD x y=0∧y.own=true) then x else y
def pB(p:Pa)(u v:Int)(own:Bool):Pa :=
 if 0<v-u then ⟨sw p.f ⟨-u,v-u,own⟩,p.t⟩
 else if v-u<0 then ⟨p.f,r6 p.t ⟨u,-(v-u),own⟩⟩
 else if u<0∨(u=0∧own=false) then ⟨⟨1,1,false⟩,⟨0,1,false⟩⟩ else p
def yg(p:Pa):Bool:=decide (iD p.f p.t<0)||(decide (iD p.f p.t=0)&&p.f.own&&p.t.own)
def wu:Pa:=⟨⟨0,1,true⟩,⟨1,1,true⟩⟩
theorem aem(x y:Int):fo x y<0↔x<y:=by unfold fo;split <;> (try split) <;> omega
theorem ael(x y:Int):0<fo x y↔y<x:=by unfold fo;split <;> (try split) <;> omega
theorem aek(x y:Int):fo x y=0↔x=y:=by unfold fo;split <;> (try split) <;> omega
def rQ(x:iQ)(n d:Int):Prop:=x.n*d<n*x.d∨(x.own=true∧x.n*d=n*x.d)
def rR(y:iQ)(n d:Int):Prop:=n*y.d<y.n*d∨(y.own=true∧n*y.d=y.n*d)
def qO(p:Pa)(n d:Int):Prop:=rQ p.f n d∧rR p.t n d
theorem qs{a b c:Int}(h:a<b)(ak:0<c):a*c<b*c:=Int.mul_lt_mul_of_pos_right h ak
theorem lt_mul{a b c:Int}(h:a*c<b*c)(ak:0<c):a<b:=Int.lt_of_mul_lt_mul_right h (by omega)
theorem eq_mul{a b c:Int}(h:a*c=b*c)(ak:0<c):a=b:=Int.eq_of_mul_eq_mul_right (by omega) h
theorem wM{a b c d e f:Int}(aa:0<b)(hd:0<d)(ay:0<f)(h:a*d<c*b)(k:c*f<e*d):a*f<e*b:=by
 have h1:=qs h ay;have h2:=qs k aa;refine lt_mul (c:=d) ?_ hd;have aI:a*d*f=a*f*d:=by grind
 have aO:c*b*f=c*f*b:=by grind
 have cf:e*d*b=e*b*d:=by grind
 omega
theorem yr{a b c d e f:Int}(aa:0<b)(hd:0<d)(ay:0<f)(h:a*d=c*b)(k:c*f<e*d):a*f<e*b:=by
 have h2:=qs k aa;refine lt_mul (c:=d) ?_ hd;have aI:a*d*f=a*f*d:=by grind
 have aO:c*b*f=c*f*b:=by grind
 have cf:e*d*b=e*b*d:=by grind
 have h1:a*d*f=c*b*f:=by rw[h]
 omega
theorem yt{a b c d e f:Int}(aa:0<b)(hd:0<d)(ay:0<f)(h:a*d<c*b)(k:c*f=e*d):a*f<e*b:=by
 have h1:=qs h ay;refine lt_mul (c:=d) ?_ hd;have aI:a*d*f=a*f*d:=by grind
 have aO:c*b*f=c*f*b:=by grind
 have cf:e*d*b=e*b*d:=by grind
 have h2:c*f*b=e*d*b:=by rw[k]
 omega
theorem I6{a b c d e f:Int}(aa:0<b)(hd:0<d)(ay:0<f)(h:a*d=c*b)(k:c*f=e*d):a*f=e*b:=by
 refine eq_mul (c:=d) ?_ hd;have aI:a*d*f=a*f*d:=by grind
 have aO:c*b*f=c*f*b:=by grind
 have cf:e*d*b=e*b*d:=by grind
 have h1:a*d*f=c*b*f:=by rw[h]
 have h2:c*f*b=e*d*b:=by rw[k]
 omega
theorem Es(x y:iQ):(x.n*y.d<y.n*x.d∧iD x y<0)∨(x.n*y.d=y.n*x.d∧iD x y=0)∨(y.n*x.d<x.n*y.d∧0<iD x y):=by
 have h1:=aem (x.n*y.d) (y.n*x.d);have h2:=ael (x.n*y.d) (y.n*x.d);have ar:=aek (x.n*y.d) (y.n*x.d);unfold iD;omega
theorem RQ(x y:iQ):(sw x y=x∧(0<iD x y∨(iD x y=0∧y.own=true)))∨(sw x y=y∧¬(0<iD x y∨(iD x y=0∧y.own=true))):=by
 unfold sw
 split
 ·rename_i h;exact .inl ⟨rfl,h⟩
 ·rename_i h;exact .inr ⟨rfl,h⟩
theorem OZ(x y:iQ):(r6 x y=x∧(iD x y<0∨(iD x y=0∧y.own=true)))∨(r6 x y=y∧¬(iD x y<0∨(iD x y=0∧y.own=true))):=by
 unfold r6
 split
 ·rename_i h;exact .inl ⟨rfl,h⟩
 ·rename_i h;exact .inr ⟨rfl,h⟩
theorem Yf{x y:iQ}{n d:Int}(ab:0<x.d)(ai:0<y.d)(hd:0<d):rQ (sw x y) n d↔rQ x n d∧rQ y n d:=by
 unfold rQ;rcases RQ x y with ⟨e,h⟩|⟨e,h⟩ <;> rw[e] <;> rcases Es x y with ⟨t,c⟩|⟨t,c⟩|⟨t,c⟩
 ·omega
 ·have aD:y.own=true:=by rcases h with h|⟨_,h⟩ <;> first|exact h|(exfalso;omega)
  refine⟨fun k=>⟨k,?_⟩,fun k=>k.1⟩;rcases k with k|⟨_,k⟩
  ·exact .inl (yr ai ab hd t.symm k)
  ·exact .inr ⟨aD,I6 ai ab hd t.symm k⟩
 ·refine⟨fun k=>⟨k,?_⟩,fun k=>k.1⟩;rcases k with k|⟨_,k⟩
  ·exact .inl (wM ai ab hd t k)
  ·exact .inl (yt ai ab hd t k)
 ·refine⟨fun k=>⟨?_,k⟩,fun k=>k.2⟩;rcases k with k|⟨_,k⟩
  ·exact .inl (wM ab ai hd t k)
  ·exact .inl (yt ab ai hd t k)
 ·refine⟨fun k=>⟨?_,k⟩,fun k=>k.2⟩;have aD:¬y.own=true:=fun q=>h (.inr ⟨c,q⟩);rcases k with k|⟨q,k⟩
  ·exact .inl (yr ab ai hd t k)
  ·exact absurd q aD
 ·omega
theorem Zn{x y:iQ}{n d:Int}(ab:0<x.d)(ai:0<y.d)(hd:0<d):rR (r6 x y) n d↔rR x n d∧rR y n d:=by
 unfold rR;rcases OZ x y with ⟨e,h⟩|⟨e,h⟩ <;> rw[e] <;> rcases Es x y with ⟨t,c⟩|⟨t,c⟩|⟨t,c⟩
 ·refine⟨fun k=>⟨k,?_⟩,fun k=>k.1⟩;rcases k with k|⟨_,k⟩
  ·exact .inl (wM hd ab ai k t)
  ·exact .inl (yr hd ab ai k t)
 ·have aD:y.own=true:=by rcases h with h|⟨_,h⟩ <;> first|exact h|(exfalso;omega)
  refine⟨fun k=>⟨k,?_⟩,fun k=>k.1⟩;rcases k with k|⟨_,k⟩
  ·exact .inl (yt hd ab ai k t)
  ·exact .inr ⟨aD,I6 hd ab ai k t⟩
 ·omega
 ·omega
 ·refine⟨fun k=>⟨?_,k⟩,fun k=>k.2⟩;have aD:¬y.own=true:=fun q=>h (.inr ⟨c,q⟩);rcases k with k|⟨q,k⟩
  ·exact .inl (yt hd ai ab k t.symm)
  ·exact absurd q aD
 ·refine⟨fun k=>⟨?_,k⟩,fun k=>k.2⟩;rcases k with k|⟨_,k⟩
  ·exact .inl (wM hd ai ab k t)
  ·exact .inl (yr hd ai ab k t)
def kR(u v:Int)(own:Bool)(n d:Int):Prop:=0<u*(d-n)+v*n∨(own=true∧u*(d-n)+v*n=0)
theorem FZ{p:Pa}{u v n d:Int}{own:Bool}(ay:0<p.f.d)(aE:0<p.t.d)(hd:0<d):qO (pB p u v own) n d↔qO p n d∧kR u v own n d:=by
 have cB:u*(d-n)+v*n=(v-u)*n+u*d:=by grind
 unfold pB
 by_cases h1:0<v-u
 ·rw[if_pos h1];unfold qO;rw[Yf ay h1 hd]
  have:rQ ⟨-u,v-u,own⟩ n d↔kR u v own n d:=by
   unfold rQ kR;simp only;have aI : -u*d = -(u*d):=by grind
   have aO:n*(v-u)=(v-u)*n:=by grind
   rw[cB,aI,aO]
   constructor
   ·rintro (k|⟨k,l⟩)
    ·exact .inl (by omega)
    ·exact .inr ⟨k,by omega⟩
   ·rintro (k|⟨k,l⟩)
    ·exact .inl (by omega)
    ·exact .inr ⟨k,by omega⟩
  rw[this]
  constructor
  ·rintro⟨⟨a,b⟩,c⟩;exact⟨⟨a,c⟩,b⟩
  ·rintro⟨⟨a,c⟩,b⟩;exact⟨⟨a,b⟩,c⟩
 ·rw[if_neg h1]
  by_cases h2:v-u<0
  ·rw[if_pos h2];unfold qO;have aj:(0:Int) < -(v-u):=by omega
   rw[Zn aE aj hd]
   have:rR ⟨u,-(v-u),own⟩ n d↔kR u v own n d:=by
    unfold rR kR;simp only;have aO:n * -(v-u) = -((v-u)*n):=by grind
    rw[cB,aO]
    constructor
    ·rintro (k|⟨k,l⟩)
     ·exact .inl (by omega)
     ·exact .inr ⟨k,by omega⟩
    ·rintro (k|⟨k,l⟩)
     ·exact .inl (by omega)
     ·exact .inr ⟨k,by omega⟩
   rw[this]
   constructor
   ·rintro⟨a,b,c⟩;exact⟨⟨a,b⟩,c⟩
   ·rintro⟨⟨a,b⟩,c⟩;exact⟨a,b,c⟩
  ·rw[if_neg h2];have cf:v-u=0:=by omega
   have ei:u*(d-n)+v*n=u*d:=by rw[cB,cf];omega
   by_cases ar:u<0∨(u=0∧own=false)
   ·rw[if_pos ar]
    have lB:¬kR u v own n d:=by
     unfold kR;rw[ei];rcases ar with ar|⟨rfl,rfl⟩
     ·have:=qs ar hd;omega
     ·simp
    refine⟨fun k=>absurd k ?_,fun k=>absurd k.2 lB⟩;unfold qO rQ rR;simp;omega
   ·rw[if_neg ar]
    have aeh:kR u v own n d:=by
     unfold kR;rw[ei]
     by_cases aJ:u=0
     ·subst aJ;right;refine⟨?_,by simp⟩;cases own with
      | true=>rfl
      | false=>exact absurd (.inr ⟨rfl,rfl⟩) ar
     ·left;have:0<u:=by omega
      have:=qs this hd;omega
    exact⟨fun k=>⟨k,aeh⟩,fun k=>k.1⟩
theorem afJ{x y:iQ}(ab:0<x.d)(ai:0<y.d):0<(sw x y).d:=by unfold sw;split <;> assumption
theorem aat{x y:iQ}(ab:0<x.d)(ai:0<y.d):0<(r6 x y).d:=by unfold r6;split <;> assumption
theorem xd{p:Pa}{u v:Int}{own:Bool}(ay:0<p.f.d)(aE:0<p.t.d):0<(pB p u v own).f.d∧0<(pB p u v own).t.d:=by
 unfold pB
 by_cases h1:0<v-u
 ·rw[if_pos h1];exact⟨afJ ay h1,aE⟩
 ·rw[if_neg h1]
  by_cases h2:v-u<0
  ·rw[if_pos h2];exact⟨ay,aat aE (by simp only;omega)⟩
  ·rw[if_neg h2]
   split
   ·exact⟨by decide,by decide⟩
   ·exact⟨ay,aE⟩
def Sl(x y:iQ):Int:=x.n*y.d+y.n*x.d
def K2(x y:iQ):Int:=x.d*y.d+x.d*y.d
theorem agr{p:Pa}(ay:0<p.f.d)(aE:0<p.t.d)(h:p.f.n*p.t.d<p.t.n*p.f.d):0<K2 p.f p.t∧qO p (Sl p.f p.t) (K2 p.f p.t):=by
 unfold Sl K2 qO rQ rR;have hm:0<p.f.d*p.t.d:=Int.mul_pos ay aE;refine⟨by omega,.inl ?_,.inl ?_⟩
 ·have:=qs h ay;grind
 ·have:=qs h aE;grind
theorem Y9{p:Pa}(ay:0<p.f.d)(aE:0<p.t.d):yg p=true↔∃n d,0<d∧qO p n d:=by
 unfold yg;simp only[pF,ef,cV]
 constructor
 ·intro h;rcases Es p.f p.t with ⟨t,c⟩|⟨t,c⟩|⟨t,c⟩
  ·obtain⟨h1,h2⟩:=agr ay aE t;exact⟨_,_,h1,h2⟩
  ·rcases h with h|⟨⟨_,h1⟩,h2⟩
   ·omega
   ·exact⟨p.f.n,p.f.d,ay,.inr ⟨h1,rfl⟩,.inr ⟨h2,t⟩⟩
  ·rcases h with h|⟨⟨h,_⟩,_⟩ <;> omega
 ·rintro⟨n,d,hd,h1,h2⟩;rcases Es p.f p.t with ⟨t,c⟩|⟨t,c⟩|⟨t,c⟩
  ·exact .inl c
  ·right;refine⟨⟨c,?_⟩,?_⟩
   ·rcases h1 with h1|⟨h1,_⟩
    ·exfalso;rcases h2 with h2|⟨_,h2⟩
     ·have:=wM ay hd aE h1 h2;omega
     ·have:=yt ay hd aE h1 h2;omega
    ·exact h1
   ·rcases h2 with h2|⟨h2,_⟩
    ·exfalso;rcases h1 with h1|⟨_,h1⟩
     ·have:=wM ay hd aE h1 h2;omega
     ·have:=yr ay hd aE h1 h2;omega
    ·exact h2
  ·exfalso;rcases h1 with h1|⟨_,h1⟩ <;> rcases h2 with h2|⟨_,h2⟩
   ·have:=wM ay hd aE h1 h2;omega
   ·have:=yt ay hd aE h1 h2;omega
   ·have:=yr ay hd aE h1 h2;omega
   ·have:=I6 ay hd aE h1 h2;omega
def uO(cN v1 cO v2 kP v3 mC v4:Int)(o p:Bool):Pa:=pB (pB (pB (pB wu cN v1 o) cO v2 o) kP v3 p) mC v4 p
theorem Z5(cN v1 cO v2 kP v3 mC v4:Int)(o p:Bool):0<(uO cN v1 cO v2 kP v3 mC v4 o p).f.d∧0<(uO cN v1 cO v2 kP v3 mC v4 o p).t.d:=by
 unfold uO;have h1:=xd (p:=wu) (u:=cN) (v:=v1) (own:=o) (by decide) (by decide);have h2:=xd (u:=cO) (v:=v2) (own:=o) h1.1 h1.2;have ar:=xd (u:=kP) (v:=v3) (own:=p) h2.1 h2.2;exact xd (u:=mC) (v:=v4) (own:=p) ar.1 ar.2
theorem Yz{n d:Int}(hd:0<d):qO wu n d↔0≤n∧n≤d:=by
 unfold qO rQ rR wu;simp;omega
theorem OI{cN v1 cO v2 kP v3 mC v4 n d:Int}{o p:Bool}(hd:0<d):qO (uO cN v1 cO v2 kP v3 mC v4 o p) n d↔(0≤n∧n≤d)∧kR cN v1 o n d∧kR cO v2 o n d∧kR kP v3 p n d∧kR mC v4 p n d:=by
 unfold uO;have h1:=xd (p:=wu) (u:=cN) (v:=v1) (own:=o) (by decide) (by decide);have h2:=xd (u:=cO) (v:=v2) (own:=o) h1.1 h1.2;have ar:=xd (u:=kP) (v:=v3) (own:=p) h2.1 h2.2;rw[FZ ar.1 ar.2 hd,FZ h2.1 h2.2 hd,FZ h1.1 h1.2 hd,FZ (by decide) (by decide) hd,Yz hd];simp only[and_assoc]
def Met(cN v1 cO v2 kP v3 mC v4:Int)(o p:Bool):Prop:=∃n d,0<d∧(0≤n∧n≤d)∧kR cN v1 o n d∧kR cO v2 o n d∧kR kP v3 p n d∧kR mC v4 p n d
theorem Z4(cN v1 cO v2 kP v3 mC v4:Int)(o p:Bool):yg (uO cN v1 cO v2 kP v3 mC v4 o p)=true↔Met cN v1 cO v2 kP v3 mC v4 o p:=by
 obtain⟨h1,h2⟩:=Z5 cN v1 cO v2 kP v3 mC v4 o p;rw[Y9 h1 h2]
 constructor
 ·rintro⟨n,d,hd,h⟩;exact⟨n,d,hd,(OI hd).1 h⟩
 ·rintro⟨n,d,hd,h⟩;exact⟨n,d,hd,(OI hd).2 h⟩
def x2(X Y W a1 a2 b1 b2:Int):Prop:=∃n d,0<d∧(0≤n∧n≤d)∧X*d=W*(a1*(d-n)+b1*n)∧Y*d=W*(a2*(d-n)+b2*n)
theorem S4{p1 p2 a1 a2 b1 b2:Int}(h:dL p1 p2 a1 a2 b1 b2):x2 p1 p2 1 a1 a2 b1 b2:=by
 obtain⟨aF,h1,h2,ar,aJ⟩:=h;unfold cm at aF;unfold hR at h1 ar;unfold hQ at h2 aJ;rcases Int.lt_trichotomy a1 b1 with g|g|g
 ·rw[if_neg (by omega)] at h1;rw[if_pos (show b1>a1 from g)] at h2;exact⟨p1-a1,b1-a1,by omega,by omega,by grind,by grind⟩
 ·subst g;rcases Int.lt_trichotomy a2 b2 with g|g|g
  ·rw[if_neg (by omega)] at ar;rw[if_pos (show b2>a2 from g)] at aJ;have:p1=a1:=by split at h1 <;> split at h2 <;> omega
   exact⟨p2-a2,b2-a2,by omega,by omega,by grind,by grind⟩
  ·subst g;have aI:p1=a1:=by split at h1 <;> split at h2 <;> omega
   have aO:p2=a2:=by split at ar <;> split at aJ <;> omega
   exact⟨0,1,by omega,by omega,by grind,by grind⟩
  ·rw[if_pos g] at ar;rw[if_neg (by omega)] at aJ;have:p1=a1:=by split at h1 <;> split at h2 <;> omega
   exact⟨a2-p2,a2-b2,by omega,by omega,by grind,by grind⟩
 ·rw[if_pos g] at h1;rw[if_neg (by omega)] at h2;exact⟨a1-p1,a1-b1,by omega,by omega,by grind,by grind⟩
theorem Mc{v W:Int}(gm:0<W)(h:0≤v*W):0≤v:=by
 refine Int.not_lt.1 fun bc => ?_;have:=Int.mul_lt_mul_of_pos_right bc gm;omega
theorem akO{v W:Int}(gm:0<W)(h:0<v*W):0<v:=by
 refine Int.not_le.1 fun hle => ?_;have:=qF hle (show 0≤W by omega);omega
theorem T2{X Y W a1 a2 b1 b2 l1 l2 h1 h2:Int}(gm:0<W)(h:x2 X Y W a1 a2 b1 b2)(g1:l1*W≤2*X)(g2:l2*W≤2*Y)(g3:2*X<h1*W)(g4:2*Y<h2*W) :
  Met (2*a1-l1) (2*b1-l1) (2*a2-l2) (2*b2-l2) (h1-2*a1) (h1-2*b1) (h2-2*a2) (h2-2*b2) true false:=by
 obtain⟨n,d,hd,aA,aI,aO⟩:=h
 have low:∀ {X a b l:Int},X*d=W*(a*(d-n)+b*n)→l*W≤2*X→kR (2*a-l) (2*b-l) true n d:=fun{X a b l} e g=>by
  have k:=h0 (show 0≤d by omega) (show 0≤2*X-l*W by omega);have e':((2*a-l)*(d-n)+(2*b-l)*n)*W=d*(2*X-l*W):=by grind
  rw[←e'] at k;rcases Int.lt_or_eq_of_le (Mc gm k) with h|h
  ·exact .inl h
  ·exact .inr ⟨rfl,h.symm⟩
 have high:∀ {X a b l:Int},X*d=W*(a*(d-n)+b*n)→2*X<l*W→kR (l-2*a) (l-2*b) false n d:=fun{X a b l} e g=>by
  have k:=Int.mul_pos hd (show 0<l*W-2*X by omega);have e':((l-2*a)*(d-n)+(l-2*b)*n)*W=d*(l*W-2*X):=by grind
  rw[←e'] at k;exact .inl (akO gm k)
 exact⟨n,d,hd,aA,low aI g1,low aO g2,high aI g3,high aO g4⟩
theorem T1{X Y W a1 a2 b1 b2:Int}(h:x2 X Y W a1 a2 b1 b2):(b1-a1)*(Y-a2*W)=(b2-a2)*(X-a1*W):=by
 obtain⟨n,d,hd,aA,aI,aO⟩:=h;have:d*((b1-a1)*(Y-a2*W)-(b2-a2)*(X-a1*W))=0:=by grind
 rcases ug.1 this with h|h
 ·omega
 ·omega
theorem Sc{a1 a2 b1 b2 c1 c2 d1 d2 X Y W W':Int}(h:dx a1 a2 b1 b2 c1 c2 d1 d2≠0)(e:oB a1 a2 b1 b2 c1 c2 d1 d2=kf X W Y W'):W'=W∧0<W∧x2 X Y W c1 c2 d1 d2:=by
 obtain⟨_,cr⟩:=V5 h;unfold oB vq at e
 split at e
 ·rename_i aJ;obtain⟨_,_,bx,cl⟩:=aJ;have aI:=congrArg ga.n e;have aO:=congrArg ga.d e;have cf:=congrArg ga.m e;have ei:=congrArg ga.e e;simp only[kf] at aI aO cf ei;have ht:=Le a1 a2 b1 b2 c1 c2 d1 d2;have nE:=Lf a1 a2 b1 b2 c1 c2 d1 d2;have hw:=ME a1 a2 b1 b2 c1 c2 d1 d2;rw[←aO,←ei];refine⟨rfl,SJ h,?_⟩;rw[tg] at bx cl;unfold kI at aI cf bx cl;unfold jP at bx cl ⊢
  by_cases hs:dx a1 a2 b1 b2 c1 c2 d1 d2<0
  ·rw[if_pos hs] at aI cf bx cl ⊢;rw[if_pos hs] at bx cl
   have:=(Ei (x:=d1) (y:=c1) (u:=d2) (v:=c2) (A := -cm a1 a2 b1 b2 d1 d2) (B := -cm a1 a2 b1 b2 c1 c2) (D := -dx a1 a2 b1 b2 c1 c2 d1 d2) (by omega) (by omega) (by omega)).1 ⟨by
    rw[show c1 * -cm a1 a2 b1 b2 d1 d2-d1 * -cm a1 a2 b1 b2 c1 c2 = -k3 a1 a2 b1 b2 c1 c2 d1 d2 by grind];exact bx,by
    rw[show c2 * -cm a1 a2 b1 b2 d1 d2-d2 * -cm a1 a2 b1 b2 c1 c2 = -k4 a1 a2 b1 b2 c1 c2 d1 d2 by grind];exact cl⟩
   exact⟨cm a1 a2 b1 b2 c1 c2,-dx a1 a2 b1 b2 c1 c2 d1 d2,by omega,by omega,by rw[←aI];grind,by rw[←cf];grind⟩
  ·rw[if_neg hs] at aI cf bx cl ⊢;rw[if_neg hs] at bx cl
   have:=(Ei (x:=d1) (y:=c1) (u:=d2) (v:=c2) (A:=cm a1 a2 b1 b2 d1 d2) (B:=cm a1 a2 b1 b2 c1 c2) (D:=dx a1 a2 b1 b2 c1 c2 d1 d2) (by omega) (by omega) (by omega)).1 ⟨by
    rw[ht];exact bx,by
    rw[nE];exact cl⟩
   exact⟨-cm a1 a2 b1 b2 c1 c2,dx a1 a2 b1 b2 c1 c2 d1 d2,by omega,by omega,by rw[←aI];grind,by rw[←cf];grind⟩
 ·have:=congrArg ga.k e;simp[iY,kf] at this
theorem Ce{a1 a2 b1 b2 c1 c2 d1 d2 X Y W W':Int}(e:jC a1 a2 b1 b2 c1 c2 d1 d2=kf X W Y W'):W'=W∧0<W∧x2 X Y W a1 a2 b1 b2∧x2 X Y W c1 c2 d1 d2∧(∀p1 p2,dL p1 p2 a1 a2 b1 b2→dL p1 p2 c1 c2 d1 d2→X=p1*W∧Y=p2*W):=by
 unfold jC at e
 split at e
 ·rename_i hw;unfold xc inl at e
  split at e
  ·rename_i Kd;obtain⟨o1,o2⟩:=Kd;unfold xb at e
   split at e
   ·rename_i yD;have aI:=congrArg ga.n e;have aO:=congrArg ga.d e;have cf:=congrArg ga.m e;have ei:=congrArg ga.e e;simp only[kf] at aI aO cf ei;subst aO;subst ei;rw[Cu] at o1 o2;rw[aI,cf] at o1 o2;refine⟨rfl,by decide,S4 o1,S4 o2,fun p1 p2 hp aj => ?_⟩
    have adG:qy (eY a1 a2 b1 b2) (eG a1 a2 b1 b2) (er a1 a2 b1 b2) (ej a1 a2 b1 b2) (eY c1 c2 d1 d2) (eG c1 c2 d1 d2) (er c1 c2 d1 d2) (ej c1 c2 d1 d2)=0:=by
     rw[V6] at hw;rcases oT a1 a2 b1 b2 with ⟨h1,h2,ar,aJ,_⟩|⟨h1,h2,ar,aJ,_⟩ <;> rcases oT c1 c2 d1 d2 with ⟨bx,cl,jM,lF,_⟩|⟨bx,cl,jM,lF,_⟩ <;> rw[h1,h2,ar,aJ,bx,cl,jM,lF] <;> unfold qy at hw ⊢ <;> grind
    obtain⟨_,_,_,_,l1,l2⟩:=RX (yZ a1 a2 b1 b2) (yZ c1 c2 d1 d2) adG (Cu.2 hp) (Cu.2 aj);rw[←yD.1,←yD.2] at l2;have:=dO.D5 l1 l2;omega
   ·have:=congrArg ga.k e;simp[uG,kf] at this
  ·have:=congrArg ga.k e;simp[iY,kf] at this
 ·rename_i hw;obtain⟨g1,g2,g3⟩:=Sc hw e;have nL:dx c1 c2 d1 d2 a1 a2 b1 b2≠0:=by rw[Hk];omega
  obtain⟨_,_,g4⟩:=Sc nL (by rw[agj hw];exact e);refine⟨g1,g2,g4,g3,fun p1 p2 hp aj => ?_⟩;have l1:=T1 g4;have l2:=T1 g3;have q1:=hp.1;have q2:=aj.1;unfold cm at q1 q2
  have line:∀ {a1 a2 b1 b2:Int},(b1-a1)*(Y-a2*W)=(b2-a2)*(X-a1*W)→(b1-a1)*(p2-a2)-(b2-a2)*(p1-a1)=0→(b1-a1)*(Y-p2*W)=(b2-a2)*(X-p1*W):=fun{a1 a2 b1 b2} l q=>by
   have z:(b1-a1)*(Y-p2*W)-(b2-a2)*(X-p1*W)=((b1-a1)*(Y-a2*W)-(b2-a2)*(X-a1*W))-((b1-a1)*(p2-a2)-(b2-a2)*(p1-a1))*W:=by grind
   rw[q,l,Int.zero_mul] at z;omega
  have m1:=line l1 q1;have m2:=line l2 q2
  have jZ:dx a1 a2 b1 b2 c1 c2 d1 d2*(X-p1*W)=0:=by
   have z:dx a1 a2 b1 b2 c1 c2 d1 d2*(X-p1*W)=(b1-a1)*((d2-c2)*(X-p1*W))-(d1-c1)*((b2-a2)*(X-p1*W)):=by unfold dx;grind
   rw[z,←m1,←m2,Int.mul_left_comm];omega
  have z2:dx a1 a2 b1 b2 c1 c2 d1 d2*(Y-p2*W)=0:=by
   have z:dx a1 a2 b1 b2 c1 c2 d1 d2*(Y-p2*W)=(d2-c2)*((b1-a1)*(Y-p2*W))-(b2-a2)*((d1-c1)*(Y-p2*W)):=by unfold dx;grind
   rw[z,m1,m2,Int.mul_left_comm];omega
  have jY:=(ug.1 jZ).resolve_left hw;have mE:=(ug.1 z2).resolve_left hw;omega
def z8(S:Int)(p q x:Int×Int):Prop:=Met (2*(S*p.1)-(2*(S*x.1)-S)) (2*(S*q.1)-(2*(S*x.1)-S)) (2*(S*p.2)-(2*(S*x.2)-S)) (2*(S*q.2)-(2*(S*x.2)-S)) (2*(S*x.1)+S-2*(S*p.1)) (2*(S*x.1)+S-2*(S*q.1)) (2*(S*x.2)+S-2*(S*p.2)) (2*(S*x.2)+S-2*(S*q.2)) true false
def DH(S X Y W:Int)(x:Int×Int):Prop:=((2*(S*x.1)-S)*W≤2*X∧2*X<(2*(S*x.1)+S)*W)∧(2*(S*x.2)-S)*W≤2*Y∧2*Y<(2*(S*x.2)+S)*W
abbrev Nb(S:Int)(x p q:Int×Int):Prop:=dL (S*x.1) (S*x.2) (S*p.1) (S*p.2) (S*q.1) (S*q.2)
theorem S1(S:Int)(p q:Int×Int):Nb S p p q:=by
 refine⟨Iw ..,?_⟩;unfold tM hR hQ
 split <;> split <;> split <;> split <;> omega
theorem S2(S:Int)(p q:Int×Int):Nb S q p q:=by
 refine⟨OG ..,?_⟩;unfold tM hR hQ
 split <;> split <;> split <;> split <;> omega
theorem agn{S:Int}(hS:0<S){p q fL cI x:Int×Int}{X Y W W':Int}(e:jC (S*p.1) (S*p.2) (S*q.1) (S*q.2) (S*fL.1) (S*fL.2) (S*cI.1) (S*cI.2)=kf X W Y W')(ab:DH S X Y W x)(h1:z8 S p q x→x=p∨x=q)(h2:z8 S fL cI x→x=fL∨x=cI) :
  (x=p∨x=q)∧(x=fL∨x=cI)∧X=S*x.1*W∧Y=S*x.2*W:=by
 obtain⟨_,gm,g1,g2,g3⟩:=Ce e;obtain⟨⟨b1,b2⟩,dM,de⟩:=ab;have bx:=h1 (T2 gm g1 b1 dM b2 de);have cl:=h2 (T2 gm g2 b1 dM b2 de);refine⟨bx,cl,g3 _ _ ?_ ?_⟩
 ·rcases bx with rfl|rfl
  ·exact S1 ..
  ·exact S2 ..
 ·rcases cl with rfl|rfl
  ·exact S1 ..
  ·exact S2 ..
end Go.Proofs.YtklpfooafbjnpaaGreat
namespace Go.Proofs.YtklpfooafbjnpaaGreat.bB
abbrev h8:=Int×Int
abbrev Sb(S:Int)(l m:h8×h8):ga:=jC (S*l.1.1) (S*l.1.2) (S*l.2.1) (S*l.2.2) (S*m.1.1) (S*m.1.2) (S*m.2.1) (S*m.2.2)
def Al(l m:h8×h8):Prop:=l.1=m.1∨l.1=m.2∨l.2=m.1∨l.2=m.2
structure Ai (S:Int) (o:cT h8):Prop where
 pos:0<S
 ada:∀p q x,o.Fk p q x=true→z8 S p q x
 Qi:∀p q x,o.gM p→o.gM q→o.gM x→z8 S p q x→o.Fk p q x=true
 OH:∀l m x,o.cut l m=some x→¬Al l m∧∃X Y W W',Sb S l m=kf X W Y W'∧DH S X Y W x
 Z3:∀l m,o.gM l.1→o.gM l.2→o.gM m.1→o.gM m.2→o.cut l m=none→(Sb S l m).k=1→Al l m
theorem Ai.own{S:Int}{o:cT h8}(h:Ai S o){hot:List h8}(aw:∀y∈hot,o.gM y){p q x:h8}(hp:p∈hot)(aj:q∈hot)(ab:x∈hot)(hs:s9 o hot p q)(hm:z8 S p q x):x=p∨x=q:=by
 have h1:=hs x ab;have h2:=h.Qi p q x (aw _ hp) (aw _ aj) (aw _ ab) hm;unfold kw at h1;rw[h2,Bool.and_true,Bool.and_eq_false_iff] at h1;rcases h1 with h1|h1
 ·exact .inl (by simpa using h1)
 ·exact .inr (by simpa using h1)
theorem Ai.Z7{S:Int}{o:cT h8}(h:Ai S o)(hot:List h8)(p q fL cI x:h8)(aw:∀y∈hot,o.gM y)(hp:p∈hot)(aj:q∈hot)(mY:fL∈hot)(l0:cI∈hot)(hs:s9 o hot p q)(FB:s9 o hot fL cI)(ak:o.cut (p,q) (fL,cI)=some x):x∉hot:=fun ab=>by
 obtain⟨aA,X,Y,W,W',e,ka⟩:=h.OH _ _ _ ak;obtain⟨g1,g2,_⟩:=agn h.pos e ka (h.own aw hp aj ab hs) (h.own aw mY l0 ab FB);refine aA ?_;unfold Al;rcases g1 with rfl|rfl <;> rcases g2 with g2|g2
 ·exact .inl g2
 ·exact .inr (.inl g2)
 ·exact .inr (.inr (.inl g2))
 ·exact .inr (.inr (.inr g2))
end Go.Proofs.YtklpfooafbjnpaaGreat.bB
namespace Go.Proofs.YtklpfooafbjnpaaGreat
def fU(S X W:Int):Int:=(2*X+S*W)/(2*(S*W))
theorem GD{S W:Int}(hS:0<S)(gm:0<W)(X:Int):(2*(S*fU S X W)-S)*W≤2*X∧2*X<(2*(S*fU S X W)+S)*W:=by
 have ab5:=Int.mul_pos hS gm;unfold fU;have h1:=rC (2*X+S*W) (2*(S*W));have h2:=pH (2*X+S*W) (show 2*(S*W)≠0 by omega);have ar:=o8 (2*X+S*W) (show 0<2*(S*W) by omega);generalize (2*X+S*W)/(2*(S*W))=g at *;generalize (2*X+S*W) % (2*(S*W))=m at *;have aI:(2*(S*g)-S)*W=2*(S*W)*g-S*W:=by grind
 have aO:(2*(S*g)+S)*W=2*(S*W)*g+S*W:=by grind
 omega
theorem aer{S X Y W:Int}(hS:0<S)(gm:0<W):DH S X Y W (fU S X W,fU S Y W):=⟨GD hS gm X,GD hS gm Y⟩
theorem T8{S X W n d p q g:Int}(hS:0<S)(gm:0<W)(hd:0<d)(aA:0≤n∧n≤d)(e:X*d=W*(S*p*(d-n)+S*q*n))(h1:(2*(S*g)-S)*W≤2*X)(h2:2*X<(2*(S*g)+S)*W):(p≤q→p≤g∧g≤q)∧(q≤p→q≤g∧g≤p):=by
 have ab5:=Int.mul_pos hS gm
 have af9:∀ {b:Int},b≤p→b≤q→S*W*b≤X:=fun{b} bx cl=>by
  have m1:=h0 (show 0≤S*W by omega) (h0 (show 0≤p-b by omega) (show 0≤d-n by omega));have m2:=h0 (show 0≤S*W by omega) (h0 (show 0≤q-b by omega) aA.1);have e':(X-S*W*b)*d=S*W*((p-b)*(d-n))+S*W*((q-b)*n):=by grind
  have:=Mc (v:=X-S*W*b) hd (by rw[e'];omega);omega
 have ac8:∀ {b:Int},p≤b→q≤b→X≤S*W*b:=fun{b} bx cl=>by
  have m1:=h0 (show 0≤S*W by omega) (h0 (show 0≤b-p by omega) (show 0≤d-n by omega));have m2:=h0 (show 0≤S*W by omega) (h0 (show 0≤b-q by omega) aA.1);have e':(S*W*b-X)*d=S*W*((b-p)*(d-n))+S*W*((b-q)*n):=by grind
  have:=Mc (v:=S*W*b-X) hd (by rw[e'];omega);omega
 have low:∀ {b:Int},b≤p→b≤q→b≤g:=fun{b} bx cl=>by
  have ht:=af9 bx cl;refine Int.not_lt.1 fun bc => ?_;have m:=sO (show g+1≤b by omega) (show 0≤S*W by omega);have aO:(2*(S*g)+S)*W=2*(S*W*(g+1))-S*W:=by grind
  omega
 have high:∀ {b:Int},p≤b→q≤b→g≤b:=fun{b} bx cl=>by
  have ht:=ac8 bx cl;refine Int.not_lt.1 fun bc => ?_;have m:=sO (show b+1≤g by omega) (show 0≤S*W by omega);have aI:(2*(S*g)-S)*W=2*(S*W*g)-S*W:=by grind
  have cf:S*W*(b+1)=S*W*b+S*W:=by grind
  omega
 exact⟨fun h=>⟨low (o6 _) h,high h (o6 _)⟩,fun h=>⟨low h (o6 _),high (o6 _) h⟩⟩
def e9(lt:Int×Int→Int×Int→Bool):List (Int×Int)→List (Int×Int)→List (Int×Int)
 | [],b=>b
 | x::a,[]=>x::a
 | x::a,y::b=>if lt y x then y::e9 lt (x::a) b else x::e9 lt a (y::b)
termination_by a b=>a.length+b.length
theorem K9(lt:Int×Int→Int×Int→Bool)(a:List (Int×Int)):e9 lt a []=a:=by cases a <;> simp[e9]
theorem agw(lt:Int×Int→Int×Int→Bool)(a:List (Int×Int)):e9 lt [] a=a:=by simp[e9]
theorem K8(lt:Int×Int→Int×Int→Bool):∀a b,(e9 lt a b).length=a.length+b.length:=by
 intro a b
 induction a,b using e9.induct lt with
 | case1 b=>simp[e9]
 | case2 x a=>simp[e9]
 | case3 x a y b h cg=>rw[e9,if_pos h,hX,cg];simp;omega
 | case4 x a y b h cg=>rw[e9,if_neg h,hX,cg];simp;omega
def jW(lt:Int×Int→Int×Int→Bool)(l:List (Int×Int)):List (Int×Int) :=
 if h:l.length<2 then l else e9 lt (jW lt (l.take (l.length/2))) (jW lt (l.drop (l.length/2)))
termination_by l.length
decreasing_by all_goals (simp;omega)
theorem G8(lt:Int×Int→Int×Int→Bool):∀(N:Nat) (l:List (Int×Int)),l.length≤N→(jW lt l).length=l.length
 | 0,l,h=>by rw[jW,dif_pos (by omega)]
 | N+1,l,h=>by
  rw[jW]
  split
  ·rfl
  ·rw[K8,G8 lt N _ (by simp;omega),G8 lt N _ (by simp;omega)];simp;omega
end Go.Proofs.YtklpfooafbjnpaaGreat
namespace Go.Proofs.YtklpfooafbjnpaaGreat
open Go.RowKit
def b0:List (Int×Int)→List AC
 | []=>[]
 | p::l => .c (.int .i64 p.1) :: .c (.int .i64 p.2)::b0 l
abbrev gD(l:List (Int×Int)):ag:=cG 2 l.length (b0 l)
theorem Rm:∀(l:List (Int×Int)) (i:Nat) (p:Int×Int),l[i]?=some p→((b0 l).drop (i*2)).take 2=[.c (.int .i64 p.1),.c (.int .i64 p.2)]
 | [],i,p,h=>by simp at h
 | q::l,0,p,h=>by simp at h;subst h;simp[b0]
 | q::l,i+1,p,h=>by
  have e:(i+1)*2=i*2+1+1:=by omega
  rw[e];simp only[b0,List.drop_succ_cons];exact Rm l i p (by simpa using h)
theorem qo{l:List (Int×Int)}{j:Int}{i:Nat}{x y:Int}(af:j=i)(h:l[i]?=some (x,y)):((b0 l).drop (j.toNat*2)).take 2=[.c (.int .i64 x),.c (.int .i64 y)]:=by
 subst af;exact Rm l i (x,y) h
theorem oy:∀(l:List (Int×Int)),(b0 l).length=l.length*2
 | []=>rfl
 | p::l=>by simp only[b0,hX,oy l];omega
theorem tO:∀(l m:List (Int×Int)),b0 (l++m)=b0 l++b0 m
 | [],_=>rfl
 | p::l,m=>by simp only[ud,b0,tO l m]
theorem tP:∀(l:List (Int×Int)),(b0 l).all AC.aV=true
 | []=>rfl
 | p::l=>by simp only[b0,kM,tP l];rfl
def cK(l:List Int):List AC:=l.map fun x => .c (.int .i64 x)
abbrev n0(l:List Int):ag:=cG 1 l.length (cK l)
theorem xa{l:List Int}{j:Int}{i:Nat}{x:Int}(af:j=i)(h:l[i]?=some x):((cK l).drop (j.toNat*1)).take 1=[.c (.int .i64 x)]:=by
 subst af;have hi:=(bt.1 h).1;rw[kL,Nat.mul_one,jU (by simpa [cK] using hi)];have:l[i]=x:=(bt.1 h).2;simp[cK,this]
theorem BX(l m:List Int):cK (l++m)=cK l++cK m:=by simp[cK]
instance anS:nw ah 51 3 1 8:=⟨by kernel_rfl⟩
def At(x y z w:Int)(fx fy:Bool):Bool:=if x<z then !fx else if z<x then fx else if y<w then !fy else decide (w<y)&&fy
end Go.Proofs.YtklpfooafbjnpaaGreat
namespace Go.Proofs.YtklpfooafbjnpaaGreat
abbrev aq:=Int×Int
def dZ(fx fy:Bool)(p q:aq):Bool:=At p.1 p.2 q.1 q.2 fx fy
theorem Ar{fx fy:Bool}{p q:aq}:dZ fx fy p q=true↔(if fx then q.1<p.1 else p.1<q.1)∨(p.1=q.1∧if fy then q.2<p.2 else p.2<q.2):=by
 unfold dZ At
 by_cases h1:p.1<q.1
 ·cases fx <;> simp[h1] <;> omega
 ·by_cases h2:q.1<p.1
  ·cases fx <;> simp[h1,h2] <;> omega
  ·have e:p.1=q.1:=by omega
   by_cases ar:p.2<q.2
   ·cases fx <;> cases fy <;> simp[h1,h2,ar,e] <;> omega
   ·cases fx <;> cases fy <;> simp[h1,h2,ar,e] <;> omega
theorem As{fx fy:Bool}{p q r:aq}(h1:dZ fx fy p q=true)(h2:dZ fx fy q r=true):dZ fx fy p r=true:=by
 rw[Ar] at *;cases fx <;> cases fy <;> simp at * <;> omega
theorem NA{fx fy:Bool}{p:aq}:dZ fx fy p p=false:=by
 cases h:dZ fx fy p p with
 | false=>rfl
 | true=>rw[Ar] at h;cases fx <;> cases fy <;> simp at h
theorem Nz{fx fy:Bool}{p q:aq}(h1:dZ fx fy p q=true):dZ fx fy q p=false:=by
 cases h:dZ fx fy q p with
 | false=>rfl
 | true=>have:=As h1 h;rw[NA] at this;cases this
theorem H3{fx fy:Bool}{p q:aq}(h:p≠q):dZ fx fy p q=true∨dZ fx fy q p=true:=by
 rw[Ar,Ar]
 have:p.1≠q.1∨p.2≠q.2:=by
  by_cases h1:p.1=q.1
  ·exact .inr fun h2=>h (la h1 h2)
  ·exact .inl h1
 cases fx <;> cases fy <;> simp <;> omega
def lm(fx fy:Bool)(l:List aq):Prop:=l.Pairwise fun p q=>dZ fx fy p q=true
theorem NV{fx fy:Bool}:∀ {l m:List aq},lm fx fy l→lm fx fy m→l.Perm m→l=m
 | [],m,_,_,hp=>by have:=hp.nil_eq;exact this
 | p::l,[],_,_,hp=>by have:=hp.length_eq;simp at this
 | p::l,q::m,al,hm,hp=>by
  have h1:=kj.1 al;have h2:=kj.1 hm
  have e:p=q:=by
   rcases fg.1 (hp.mem_iff.1 (hE ..):p∈q::m) with h|h
   ·exact h
   ·rcases fg.1 (hp.mem_iff.2 (hE ..):q∈p::l) with aK|aK
    ·exact aK.symm
    ·have a:=h1.1 q aK;have b:=h2.1 p h;rw[Nz a] at b;cases b
  subst e;rw[NV h1.2 h2.2 (List.perm_cons p |>.1 hp)]
def nN(fx fy:Bool)(q:aq):List aq→List aq
 | []=>[q]
 | p::l=>if dZ fx fy q p then q::p::l else p::nN fx fy q l
theorem BZ(fx fy:Bool)(q:aq):∀l,(nN fx fy q l).Perm (q::l)
 | [] => .refl _
 | p::l=>by
  unfold nN
  split
  ·exact .refl _
  ·exact((BZ fx fy q l).cons p).trans (.swap q p l)
theorem Rh{fx fy:Bool}{q:aq}:∀ {l:List aq},lm fx fy l→q∉l→lm fx fy (nN fx fy q l)
 | [],_,_=>by unfold nN lm;simp
 | p::l,h,aA=>by
  have ak:=kj.1 h;unfold nN
  split
  ·rename_i aj;refine kj.2 ⟨fun r ap => ?_,h⟩;rcases fg.1 ap with rfl|ap
   ·exact aj
   ·exact As aj (ak.1 r ap)
  ·rename_i aj;refine kj.2 ⟨fun r ap => ?_,Rh ak.2 fun aK=>aA (k8 _ aK)⟩;rcases fg.1 ((BZ fx fy q l).mem_iff.1 ap) with rfl|ap
   ·rcases H3 (fx:=fx) (fy:=fy) (p:=p) (q:=r) (fun e=>aA (by rw[e];exact hE ..)) with aK|aK
    ·exact aK
    ·exact absurd aK aj
   ·exact ak.1 r ap
def sX(fx fy:Bool)(f:aq→Bool)(l:List aq):List aq:=l.foldl (fun out q=>if f q then nN fx fy q out else out) []
theorem G5(fx fy:Bool)(f:aq→Bool)(l:List aq):(sX fx fy f l).Perm (l.filter f):=by
 have key:∀(l out:List aq),(l.foldl (fun out q=>if f q then nN fx fy q out else out) out).Perm (out++l.filter f):=by
  intro l
  induction l with
  | nil=>intro out;simp
  | cons q l cg =>
   intro out;rw[uc,List.filter_cons]
   by_cases aj:f q=true
   ·rw[if_pos aj,if_pos aj];refine(cg _).trans ?_;refine((BZ fx fy q out).append_right _).trans ?_;exact List.perm_middle.symm
   ·rw[if_neg aj,if_neg aj];exact cg out
 exact key l []
theorem alg(fx fy:Bool)(f:aq→Bool)(l:List aq):(sX fx fy f l).length≤l.length:=by
 rw[(G5 fx fy f l).length_eq];exact List.length_filter_le _ _
theorem ale(fx fy:Bool)(f:aq→Bool){l:List aq}(aA:l.Nodup):lm fx fy (sX fx fy f l):=by
 have key:∀(l out:List aq),lm fx fy out→(out++l).Nodup→lm fx fy (l.foldl (fun out q=>if f q then nN fx fy q out else out) out):=by
  intro l
  induction l with
  | nil=>intro out h _;exact h
  | cons q l cg =>
   intro out h hd;have hm:=List.nodup_append.1 hd;have aj:q∉out:=fun ka=>hm.2.2 q ka q (hE ..) rfl;rw[uc]
   by_cases ay:f q=true
   ·rw[if_pos ay];refine cg _ (Rh h aj) ?_;have hp:(nN fx fy q out++l).Perm (out++q::l):=((BZ fx fy q out).append_right l).trans List.perm_middle.symm;exact hp.nodup_iff.2 hd
   ·rw[if_neg ay];refine cg _ h ?_;exact hd.sublist (List.Sublist.append_left (List.sublist_cons_self q l) out)
 exact key l [] List.Pairwise.nil (by simpa using aA)
theorem La(lt:aq→aq→Bool):∀a b,(e9 lt a b).Perm (a++b):=by
 intro a b
 induction a,b using e9.induct lt with
 | case1 b=>simp[e9]
 | case2 x a=>simp[e9]
 | case3 x a y b h cg =>
  rw[e9,if_pos h];exact(cg.cons y).trans List.perm_middle.symm
 | case4 x a y b h cg =>
  rw[e9,if_neg h];exact cg.cons x
theorem agv{fx fy:Bool}:∀a b,lm fx fy a→lm fx fy b→(a++b).Nodup→lm fx fy (e9 (dZ fx fy) a b):=by
 intro a b
 induction a,b using e9.induct (dZ fx fy) with
 | case1 b=>intro _ h _;simpa [e9] using h
 | case2 x a=>intro h _ _;simpa [e9] using h
 | case3 x a y b h cg =>
  intro aX aa hd;rw[e9,if_pos h];have E7:=kj.1 aa;have dc:=kj.1 aX;have tB:(x::a++b).Nodup:=hd.sublist (List.Sublist.append_left (List.sublist_cons_self y b) (x::a));refine kj.2 ⟨fun r ap => ?_,cg aX E7.2 tB⟩;rcases kh.1 ((La _ _ _).mem_iff.1 ap) with ap|ap
  ·rcases fg.1 ap with rfl|ap
   ·exact h
   ·exact As h (dc.1 r ap)
  ·exact E7.1 r ap
 | case4 x a y b h cg =>
  intro aX aa hd;rw[e9,if_neg h];have E7:=kj.1 aa;have dc:=kj.1 aX;have mr:x≠y:=fun e=>(List.nodup_append.1 hd).2.2 x (hE ..) y (hE ..) e;have bc:dZ fx fy x y=true:=(H3 mr).resolve_right h;have tB:(a++y::b).Nodup:=(List.nodup_cons.1 hd).2;refine kj.2 ⟨fun r ap => ?_,cg dc.2 aa tB⟩;rcases kh.1 ((La _ _ _).mem_iff.1 ap) with ap|ap
  ·exact dc.1 r ap
  ·rcases fg.1 ap with rfl|ap
   ·exact bc
   ·exact As bc (E7.1 r ap)
theorem C3(lt:aq→aq→Bool):∀(N:Nat) (l:List aq),l.length≤N→(jW lt l).Perm l
 | N,l,h=>by
  by_cases q:l.length<2
  ·rw[jW,dif_pos q]
  ·match N with
   | 0=>omega
   | N+1 =>
    rw[jW,dif_neg q];refine(La lt _ _).trans ?_;refine((C3 lt N _ (by simp;omega)).append (C3 lt N _ (by simp;omega))).trans ?_;rw[ki]
theorem Mm{fx fy:Bool}:∀(N:Nat) (l:List aq),l.length≤N→l.Nodup→lm fx fy (jW (dZ fx fy) l)
 | N,l,h,hd=>by
  by_cases q:l.length<2
  ·rw[jW,dif_pos q]
   match l,q with
   | [],_=>exact .nil
   | [x],_=>unfold lm;simp
   | x::y::l,q=>exact absurd q (by simp)
  ·match N with
   | 0=>omega
   | N+1 =>
    rw[jW,dif_neg q];refine agv _ _ (Mm N _ (by simp;omega) (hd.sublist (List.take_sublist _ _))) (Mm N _ (by simp;omega) (hd.sublist (List.drop_sublist _ _))) ?_;have hp:=(C3 (dZ fx fy) N (l.take (l.length/2)) (by simp;omega)).append (C3 (dZ fx fy) N (l.drop (l.length/2)) (by simp;omega));rw[ki] at hp;exact hp.nodup_iff.2 hd
theorem alt{fx fy:Bool}{f:aq→Bool}{l m:List aq}(aA:l.Nodup)(hp:m.Perm (l.filter f)):jW (dZ fx fy) m=sX fx fy f l :=
 NV (Mm _ m (cF _) (hp.nodup_iff.2 (aA.sublist List.filter_sublist))) (ale fx fy f aA) ((C3 _ _ m (cF _)).trans (hp.trans (G5 fx fy f l).symm))
end Go.Proofs.YtklpfooafbjnpaaGreat
namespace Go.Proofs.YtklpfooafbjnpaaGreat
open Go.RowKit
def C8(P:Program)(sb:TypeId)(agg:Bool)(n:Nat):Bool:=match lL P sb with
 | some (b,m)=>Bool.beq b agg&&Nat.beq m n
 | none=>false
where Bool.beq:Bool→Bool→Bool
 | true,true=>true
 | false,false=>true
 | _,_=>false
def I5(P:Program)(ty i off:Nat)(agg:Bool)(n:Nat):Bool:=match P.underlying ty with
 | some (.struct bo)=>match bo[i]? with
  | some f=>Nat.beq f.offset off&&C8 P f.type agg n
  | none=>false
 | _=>false
def KD(P:Program)(ty len:Nat)(agg:Bool)(n:Nat):Bool:=match P.underlying ty with
 | some (.array l e)=>Nat.beq l len&&C8 P e agg n&&(match P.info? e with|some t=>Nat.beq t.size n|none=>false)
 | _=>false
class HA (P:Program) (ty i:Nat) (off:outParam Nat) (agg:outParam Bool) (n:outParam Nat):Prop where
 h:I5 P ty i off agg n=true
class HG (P:Program) (ty:Nat) (len:outParam Nat) (agg:outParam Bool) (n:outParam Nat):Prop where
 h:KD P ty len agg n=true
section
variable{P:Program}
theorem VV{sb n:Nat}{agg:Bool}(h:C8 P sb agg n=true):lL P sb=some (agg,n):=by
 unfold C8 at h
 split at h
 ·rename_i b m aa;rw[ef] at h;have e:=gp h.2;have aO:b=agg:=by cases b <;> cases agg <;> simp[C8.Bool.beq] at h ⊢
  rw[aa,e,aO]
 ·cases h
theorem U7{sb n off:Nat}{cs:List Value}{v:Value}{W:World}(h:lL P sb=some (false,n))(hv:cs[off]?=some v):(part sb cs.toArray off).run P W = .ok v W:=by
 unfold lL at h;cases hu:P.underlying sb with
 | none=>rw[hu] at h;cases h
 | some D =>
  have h1:(isAgg sb).run P W = .ok false W:=by
   unfold isAgg;simp only[Sem.run_bind,run_underlying hu,Result.andThen_ok];cases hi:P.info? sb with
   | none=>rw[hu,hi] at h;cases D <;> first|rfl|(cases h)
   | some eJ=>rw[hu,hi] at h;cases D <;> first|rfl|(cases h)
  unfold part;simp only[Sem.run_bind,h1,Result.andThen_ok,Bool.false_eq_true,if_false,List.getElem?_toArray,hv,Sem.run_pure]
variable{s:aB}{ops:Array Oper}{K:aB→Prop}{rest:List Oper}{ty:Nat}{pos:String}{after:Array Edge}{guard:Option (Nat×Bool)}{d:Nat}
theorem aaX{dm i off n:Nat}{agg:Bool}(h:I5 P dm i off agg n=true):∃bo f,P.underlying dm=some (.struct bo)∧bo[i]?=some f∧f.offset=off∧lL P f.type=some (agg,n):=by
 unfold I5 at h
 split at h
 ·rename_i bo hu
  split at h
  ·rename_i f ay;rw[ef] at h;exact⟨bo,f,hu,ay,gp h.1,VV h.2⟩
  ·cases h
 ·cases h
theorem aeB{dm len n:Nat}{agg:Bool}(h:KD P dm len agg n=true):∃e t,P.underlying dm=some (.array len e)∧P.info? e=some t∧t.size=n∧lL P e=some (agg,n):=by
 unfold KD at h
 split at h
 ·rename_i l e hu;simp only[ef] at h;obtain⟨⟨h1,h2⟩,ar⟩:=h
  split at ar
  ·rename_i t aE;exact⟨e,t,by rw[hu,gp h1],aE,gp ar,VV h2⟩
  ·cases ar
 ·cases h
theorem Yu{x:Operand}{dm i off n:Nat}{xs:List AC}{y:AC} [F:HA P dm i off false n](hw:want ops ⟨some d,.field dm x i,ty,pos,after,guard⟩ s=some true)(ab:s.look x=some (.w (.agg xs)))(ak:xs[off]?=some y)(hd:Nat.blt d s.n=true)(h:bk P ops K rest (s.put (some d) (.w (.one y)))):bk P ops K (⟨some d,.field dm x i,ty,pos,after,guard⟩::rest) s:=by
 refine fJ hw ⟨fun _ _ h=>(by cases h),fun z aT => ?_,fun U ad W env he => ?_,fun j af=>⟨x,by simp[Op.operands],_,ab,?_⟩⟩ hd h
 ·simp[Op.operands] at aT;subst aT;exact⟨_,ab⟩
 ·obtain⟨vs,aI,al⟩:=he x (by simp[Op.operands]) _ ab;obtain⟨bo,f,hu,ay,aD,eS⟩:=aaX F.h;have bc:off<vs.length:=by rw[←al.1];exact(bt.1 ak).1
  refine⟨vs[off],?_,al.2 off y _ ak (bF bc)⟩;simp only[execOp,Instr.field,aI,Sem.run_bind,run_underlying hu,Result.andThen_ok,ay,asAgg,Sem.run_pure,aD,U7 eS (bF bc)]
 ·obtain⟨z,aT,BU⟩:=af;simp[bH.cells] at aT;subst aT;exact⟨z,cP ak,BU⟩
theorem NL{x y:Operand}{dm len n:Nat}{gO:IntKind}{i:Int}{xs:List AC}{z:AC} [A:HG P dm len false n](hw:want ops ⟨some d,.index dm x y,ty,pos,after,guard⟩ s=some true)(ab:s.look x=some (.w (.agg xs)))(ai:s.look y=some (aR (.int gO i)))(aF:0≤i)(h1:i<len)(ak:xs[i.toNat*n]?=some z)(hd:Nat.blt d s.n=true)(h:bk P ops K rest (s.put (some d) (.w (.one z)))):bk P ops K (⟨some d,.index dm x y,ty,pos,after,guard⟩::rest) s:=by
 refine fJ hw ⟨fun _ _ h=>(by cases h),fun z aT => ?_,fun U ad W env he => ?_,fun j af=>⟨x,by simp[Op.operands],_,ab,?_⟩⟩ hd h
 ·simp[Op.operands] at aT;rcases aT with rfl|rfl
  ·exact⟨_,ab⟩
  ·exact⟨_,ai⟩
 ·obtain⟨vs,aI,al⟩:=he x (by simp[Op.operands]) _ ab;have hi:env y = .int gO i:=(he y (by simp[Op.operands]) _ ai).1;obtain⟨e,t,hu,aE,hs,eS⟩:=aeB A.h;have bc:i.toNat*n<vs.length:=by rw[←al.1];exact(bt.1 ak).1
  refine⟨vs[i.toNat*n],?_,al.2 _ z _ ak (bF bc)⟩;simp only[execOp,Instr.index,aI,hi,asIntOf,Sem.run_bind,Sem.run_pure,Result.andThen_ok,run_underlying hu,if_pos (And.intro aF h1),h5 aE,hs,U7 eS (bF bc)]
 ·obtain⟨u,hu,ad2⟩:=af;simp[bH.cells] at hu;subst hu;exact⟨u,cP ak,ad2⟩
theorem Yp{dm dY:Nat}{x y:Operand}{a b:Bool}(hw:want ops ⟨some d,.binOp .eql dm x y dY,ty,pos,after,guard⟩ s=some true)(ab:s.look x=some (bl a))(ai:s.look y=some (bl b))(hd:Nat.blt d s.n=true)(hu:P.underlying dm=some .bool)(h:bk P ops K rest (s.put (some d) (bl (a==b)))):bk P ops K (⟨some d,.binOp .eql dm x y dY,ty,pos,after,guard⟩::rest) s :=
 yc hw ab ai rfl rfl (fun W=>rfl) (fun W=>run_eql_bool W dm a b hu) rfl hd h
end
theorem TM{P:Program}{f:FuncId}{args od:List ag}{r:ag}(h:aP P f args r)(gE:od.all ag.aV=true)(al:od.length=args.length)(hle:∀(i:Nat) x y,od[i]?=some x→args[i]?=some y→x.aW y):aP P f od r :=
 ⟨fun x ab=>ag.cU (b4.1 gE x ab),h.cm,fun U W vs cJ=>h.call U W vs ⟨by rw[←al];exact cJ.1,fun i y v ai hv=>by
  have hi:i<od.length:=by rw[al];exact(bt.1 ai).1
  exact hle i _ y (bF hi) ai U id W v (cJ.2 i _ v (bF hi) hv)⟩⟩
abbrev MB:ag:=aR (.slice none 0 0)
theorem nil_le(z:Nat):MB.aW (cG z 0 []):=fun U ad W v h=>by
 obtain⟨rfl,_⟩:=h;exact⟨⟨none,0,rfl,cF _,by simp,fun h=>absurd h (Nat.lt_irrefl _)⟩,fun b ⟨c,a,q,aA,_⟩=>absurd aA (Nat.lt_irrefl _)⟩
end Go.Proofs.YtklpfooafbjnpaaGreat
namespace Go.Proofs.YtklpfooafbjnpaaGreat
open Go.RowKit
end Go.Proofs.YtklpfooafbjnpaaGreat
namespace Go.Proofs.YtklpfooafbjnpaaGreat
open Go.RowKit
end Go.Proofs.YtklpfooafbjnpaaGreat
namespace Go.Proofs.YtklpfooafbjnpaaGreat
open Go.RowKit
theorem ajh(j:Nat):(0:Int)<2^j∧(2:Int)^j<10000^(j+1):=by
 induction j with
 | zero=>decide
 | succ j cg=>rw[Int.pow_succ,Int.pow_succ (10000:Int) (j+1)];omega
end Go.Proofs.YtklpfooafbjnpaaGreat
namespace Go.Proofs
open Go.Shelf
def Tryz.afR:Go.Shelf.Ren:=⟨fun|134=>339|129=>334|n=>n,fun|53=>178|3=>3|4=>4|46=>288|5=>5|9=>9|n=>n,fun|n=>n⟩
theorem Tryz.afQ:Go.Proofs.Lays.n134 ah Tryz.afR:={
 mixed:=by kernel_rfl
 f129:=Tryz.func334.trans (congrArg some (by kernel_rfl))
 f134:=Tryz.func339.trans (congrArg some (by kernel_rfl))
 t3:=Tryz.underlying3
 a3:=Tryz.isAgg3
 z3:=Tryz.sizeOf3
 v3:=Tryz.zeroValue3
 t4:=Tryz.underlying4
 a4:=Tryz.isAgg4
 z4:=Tryz.sizeOf4
 v4:=Tryz.zeroValue4
 t5:=Tryz.underlying5
 a5:=Tryz.isAgg5
 z5:=Tryz.sizeOf5
 v5:=Tryz.zeroValue5
 t9:=Tryz.underlying9
 a9:=Tryz.isAgg9
 z9:=Tryz.sizeOf9
 v9:=Tryz.zeroValue9
 t46:=Tryz.underlying288
 a46:=Tryz.isAgg288
 z46:=Tryz.sizeOf288
 v46:=Tryz.zeroValue288
 t53:=Tryz.underlying178
 a53:=Tryz.isAgg178
 z53:=Tryz.sizeOf178
 v53:=Tryz.zeroValue178}
theorem Tryz.bits_LeadingZeros64(x:Int)(w:World)(aF:0≤x)(h1:x≤18446744073709551615) :
  Calls ah 339 #[.int .u64 x] w fun e w'=>e = .returned (.int .i64 (64-(Lib.bitLen x.toNat:Int)))∧w'=w:=Any.bits_LeadingZeros64 Tryz.afQ x w aF h1
def Tryz.afP:Go.Shelf.Ren:=⟨fun|129=>334|n=>n,fun|53=>178|3=>3|4=>4|46=>288|5=>5|9=>9|n=>n,fun|n=>n⟩
theorem Tryz.afO:Go.Proofs.Lays.n129 ah Tryz.afP:={
 mixed:=by kernel_rfl
 f129:=Tryz.func334.trans (congrArg some (by kernel_rfl))
 t3:=Tryz.underlying3
 a3:=Tryz.isAgg3
 z3:=Tryz.sizeOf3
 v3:=Tryz.zeroValue3
 t4:=Tryz.underlying4
 a4:=Tryz.isAgg4
 z4:=Tryz.sizeOf4
 v4:=Tryz.zeroValue4
 t5:=Tryz.underlying5
 a5:=Tryz.isAgg5
 z5:=Tryz.sizeOf5
 v5:=Tryz.zeroValue5
 t9:=Tryz.underlying9
 a9:=Tryz.isAgg9
 z9:=Tryz.sizeOf9
 v9:=Tryz.zeroValue9
 t46:=Tryz.underlying288
 a46:=Tryz.isAgg288
 z46:=Tryz.sizeOf288
 v46:=Tryz.zeroValue288
 t53:=Tryz.underlying178
 a53:=Tryz.isAgg178
 z53:=Tryz.sizeOf178
 v53:=Tryz.zeroValue178}
theorem Tryz.bits_Len64(x:Int)(w:World)(aF:0≤x)(h1:x≤18446744073709551615) :
  Calls ah 334 #[.int .u64 x] w fun e w'=>e = .returned (.int .i64 (Lib.bitLen x.toNat))∧w'=w:=Any.bits_Len64 Tryz.afO x w aF h1
def Tryz.afT:Go.Shelf.Ren:=⟨fun|264=>292|n=>n,fun|53=>178|46=>288|n=>n,fun|n=>n⟩
theorem Tryz.afS:Go.Proofs.Lays.n264 ah Tryz.afT:={
 mixed:=by kernel_rfl
 f264:=Tryz.func292.trans (congrArg some (by kernel_rfl))
 t46:=Tryz.underlying288
 a46:=Tryz.isAgg288
 z46:=Tryz.sizeOf288
 v46:=Tryz.zeroValue288
 t53:=Tryz.underlying178
 a53:=Tryz.isAgg178
 z53:=Tryz.sizeOf178
 v53:=Tryz.zeroValue178}
open Go.RowKit Go.Lib in
theorem Tryz.bits_Mul64(x y:Nat)(ab:x<18446744073709551616)(ai:y<18446744073709551616)(w:World) :
  Calls ah 292 #[.int .u64 x,.int .u64 y] w fun e w'=>e = .returned (.tuple #[.int .u64 ((x*y/18446744073709551616:Nat):Int),.int .u64 ((x*y % 18446744073709551616:Nat):Int)])∧w'=w:=Any.bits_Mul64 Tryz.afS x y ab ai w
end Go.Proofs
