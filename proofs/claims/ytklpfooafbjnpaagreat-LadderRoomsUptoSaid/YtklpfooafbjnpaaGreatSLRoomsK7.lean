/-
  My own texts,without what this claim does not need. My own text.
-/
import Derived.Test.YtklpfooafbjnpaaGreatProg
import Derived.ProofKit
import Derived.Laws.StructEq
import Derived.Shelf.Small.Bits
import Derived.Shelf.Strconv.Itoa0
import Derived.Shelf.Bits.Mul64
import Derived.Test.YtklpfooafbjnpaaGreatSLRoomsK6
set_option maxRecDepth 100000
set_option maxHeartbeats 64000000
set_option linter.unusedVariables false
set_option linter.unusedSimpArgs false
set_option linter.unusedSectionVars false
open Go.Proofs.Tryz renaming prog → ah
namespace Go.Proofs.YtklpfooafbjnpaaGreat
open Go.RowKit
structure Au where
 ty:List (Nat×Bool×Nat)
 zero:List (Nat×List Value)
 pk:List (Nat×List (Nat×Nat))
 oH:List (Nat×Nat×Nat)
 jK:List (Nat×List (Nat×Nat))
def mG{α:Type}(R:α→Prop):List α→Prop
 | []=>True
 | a::l=>R a∧mG R l
theorem se{α:Type}{R:Nat×α→Prop}{k:Nat}{v:α}:∀(l:List (Nat×α)),mG R l→gB l k=some v→R (k,v)
 | [],_,h=>by cases h
 | (j,u)::l,al,h=>by
  simp only[gB] at h;cases aa:Nat.beq k j with
  | true=>rw[aa] at h;cases h;obtain rfl:=gl aa;exact al.1
  | false=>rw[aa] at h;exact se l al.2 h
class HW (P:Program) (T:outParam Au):Prop where
 ty:mG (fun p=>lG P p.1=some p.2) T.ty
 zero:mG (fun p=>zeroOf P p.1=some p.2) T.zero
 pk:mG (fun p=>mG (fun q=>wT P p.1 q.1=some q.2) p.2) T.pk
 oH:mG (fun p=>Ec P p.1=some p.2) T.oH
 jK:mG (fun p=>GJ P p.1=some p.2) T.jK
def Uk(b:BinOp)(m n:Int):Option Bool :=
 match b with
 | .lss=>some (decide (m<n))
 | .leq=>some (decide (m≤n))
 | .gtr=>some (decide (n<m))
 | .geq=>some (decide (n≤m))
 | .eql=>some (decide (m=n))
 | .neq=>some (!decide (m=n))
 | _=>none
def oz(T:Au)(s:aB)(d:Nat):Op→Option aB
 | .move x=>match s.look x with
  | some av=>some (s.put (some d) av)
  | none=>none
 | .assign x=>match s.look x with
  | some av=>some (s.put (some d) av)
  | none=>none
 | .pick c x y=>match s.look c,s.look x,s.look y with
  | some (.w (.one (.c (.bool true)))),some av,some _=>some (s.put (some d) av)
  | some (.w (.one (.c (.bool false)))),some _,some bv=>some (s.put (some d) bv)
  | _,_,_=>none
 | .alloc t=>match gB T.zero t,s.mem d with
  | some vs,none=>bif vs.all fun v=>v.oneCell' then some ((s.ep d (vs.map .c)).put (some d) (nS d 0)) else none
  | _,_=>none
 | .box _ x=>match s.look x,s.mem d with
  | some (.w z),none=>some ((s.ep d z.cells).put (some d) (nS d 0))
  | _,_=>none
 | .load t x=>match s.look x with
  | some (.w (.one (.own k off)))=>match s.mem k with
   | some cs=>match gB T.ty t with
    | some (false,_)=>match cs[off]? with
     | some y=>some (s.put (some d) (.w (.one y)))
     | none=>none
    | some (true,n)=>match takeN cs off n with
     | some ys=>some (s.put (some d) (.w (.agg ys)))
     | none=>none
    | none=>none
   | none=>none
  | _=>none
 | .fieldAddr t x i=>match s.look x with
  | some (.w (.one (.own k off)))=>match gB T.pk t with
   | some l=>match gB l i with
    | some kt=>some (s.put (some d) (nS k (off+kt)))
    | none=>none
   | none=>none
  | _=>none
 | .indexAddr t x y=>match s.look x,s.look y with
  | some (.w (.one (.own k off))),some (.w (.one (.c (.int _ i))))=>match gB T.oH t with
   | some (n,size)=>bif decide (0≤i)&&decide (i<n) then some (s.put (some d) (nS k (off+i.toNat*size))) else none
   | none=>none
  | _,_=>none
 | .extract x i=>match s.look x with
  | some (.cl xs)=>match xs[i]? with
   | some y=>some (s.put (some d) (.w y))
   | none=>none
  | _=>none
 | .build t parts=>match oU s.look parts.toList,gB T.zero t,gB T.jK t with
  | some zs,some vs,some ps=>match sg ps (vs.map .c) zs with
   | some r=>bif vs.all fun v=>v.oneCell' then some (s.put (some d) (.w (.agg r))) else none
   | none=>none
  | _,_,_=>none
 | .binOp b _ x y _=>match s.look x,s.look y with
  | some (.w (.one (.c (.int k m)))),some (.w (.one (.c (.int k' n))))=>match decEq k k' with
   | isTrue _=>match Uk b m n with
    | some r=>some (s.put (some d) (bl r))
    | none=>none
   | isFalse _=>none
  | _,_=>none
 | .unOp .not _ x=>match s.look x with
  | some (.w (.one (.c (.bool b))))=>some (s.put (some d) (bl (!b)))
  | _=>none
 | _=>none
def Um(T:Au)(ops:Array Oper)(s:aB)(o:Oper):Option aB :=
 match want ops o s with
 | some true=>match o.dst with
  | some d=>bif Nat.blt d s.n then oz T s d o.op else none
  | none=>match o.op with
   | .store t x y=>match s.look x,s.look y with
    | some (.w (.one (.own k off))),some (.w z)=>match s.mem k,gB T.ty t with
     | some cs,some (_,n)=>bif Nat.beq n z.cells.length then(match qx cs off z.cells with
      | some ds=>some (s.ep k ds)
      | none=>none) else none
     | _,_=>none
    | _,_=>none
   | _=>none
 | some false=>match o.dst with
  | some d=>bif Nat.blt d s.n then some (s.put (some d) (.cl [])) else none
  | none=>some s
 | none=>none
section
variable{P:Program}{T:Au}{s s':aB}{ops:Array Oper}{K:aB→Prop}{rest:List Oper}
theorem Y6 [Q:HW P T]{d ty:Nat}{op:Op}{pos:String}{after:Array Edge}{guard:Option (Nat×Bool)}(hw:want ops ⟨some d,op,ty,pos,after,guard⟩ s=some true)(hd:Nat.blt d s.n=true)(h:oz T s d op=some s')(k:bm P ops K rest s') :
  bm P ops K (⟨some d,op,ty,pos,after,guard⟩::rest) s:=by
 cases op with
 | move x =>
  simp only[oz] at h
  split at h
  ·rename_i av ab;cases h;exact YU hw ab hd k
  ·cases h
 | assign x =>
  simp only[oz] at h
  split at h
  ·rename_i av ab;cases h;exact Yu hw ab hd k
  ·cases h
 | pick c x y =>
  simp only[oz] at h
  split at h
  ·rename_i av bv ak ab ai;cases h;exact Y5 hw ak ab ai hd k
  ·rename_i av bv ak ab ai;cases h;exact Y4 hw ak ai ab hd k
  ·cases h
 | alloc t =>
  simp only[oz] at h
  split at h
  ·rename_i vs aT hm;have ed:=se _ Q.zero aT;cases h1:(vs.all fun v=>v.oneCell') with
   | true =>
    rw[h1] at h;cases h;have:DX P t vs:=⟨ed⟩;exact Yt hw hm h1 hd k
   | false=>rw[h1] at h;cases h
  ·cases h
 | box t x =>
  simp only[oz] at h
  split at h
  ·rename_i z ab hm;cases h;exact Yv hw ab hm hd k
  ·cases h
 | load t x =>
  simp only[oz] at h
  split at h
  ·rename_i j off ab
   split at h
   ·rename_i cs hm
    split at h
    ·rename_i n eS;have Br:=se _ Q.ty eS
     split at h
     ·rename_i y ak;cases h;have:e7 P t false n:=⟨Br⟩;exact YO hw ab hm ak hd k
     ·cases h
    ·rename_i n eS;have Br:=se _ Q.ty eS
     split at h
     ·rename_i ys ak;cases h;have:e7 P t true n:=⟨Br⟩;exact YP hw ab hm ak hd k
     ·cases h
    ·cases h
   ·cases h
  ·cases h
 | fieldAddr t x i =>
  simp only[oz] at h
  split at h
  ·rename_i j off ab
   split at h
   ·rename_i l al
    split at h
    ·rename_i kt au;have hF:=se _ (se _ Q.pk al) au;cases h;have:qH P t i kt:=⟨hF⟩;exact YI hw ab hd k
    ·cases h
   ·cases h
  ·cases h
 | indexAddr t x y =>
  simp only[oz] at h
  split at h
  ·rename_i j off gK i ab ai
   split at h
   ·rename_i n size cr;have Bg:=se _ Q.oH cr;cases h1:(decide (0≤i)&&decide (i<(n:Int))) with
    | true =>
     rw[h1] at h;cases h;rw[ef,cU,cU] at h1;have:M2 P t n size:=⟨Bg⟩;exact NU hw ab ai h1.1 h1.2 hd k
    | false=>rw[h1] at h;cases h
   ·cases h
  ·cases h
 | extract x i =>
  simp only[oz] at h
  split at h
  ·rename_i xs ab
   split at h
   ·rename_i y ai;cases h;exact YG hw ab ai hd k
   ·cases h
  ·cases h
 | build t parts =>
  simp only[oz] at h
  split at h
  ·rename_i zs vs ps aT hv hp;have ed:=se _ Q.zero hv;have dm:=se _ Q.jK hp
   split at h
   ·rename_i r ao;cases h1:(vs.all fun v=>v.oneCell') with
    | true =>
     rw[h1] at h;cases h;have:DX P t vs:=⟨ed⟩;have:Nt P t ps:=⟨dm⟩;have g:bm P ops K (⟨some d,.build t parts.toList.toArray,ty,pos,after,guard⟩::rest) s:=Yw (by rw[Array.toArray_toList];exact hw) aT ao h1 hd k;rwa [Array.toArray_toList] at g
    | false=>rw[h1] at h;cases h
   ·cases h
  ·cases h
 | binOp b dk x y dQ =>
  simp only[oz] at h
  split at h
  ·rename_i gK m aom n ab ai
   split at h
   ·rename_i e he;subst e;cases b <;> simp only[Uk] at h <;> cases h
    ·exact YD hw ab ai hd k
    ·exact YY hw ab ai hd k
    ·exact YQ hw ab ai hd k
    ·exact YN hw ab ai hd k
    ·exact YL hw ab ai hd k
    ·exact YK hw ab ai hd k
   ·cases h
  ·cases h
 | unOp u dk x =>
  cases u <;> simp only[oz] at h <;> try (cases h;done)
  split at h
  ·rename_i b ab;cases h;exact Y3 hw ab hd k
  ·cases h
 | _=>simp only[oz] at h;cases h
theorem fY [Q:HW P T]{o:Oper}(h:Um T ops s o=some s')(k:bm P ops K rest s'):bm P ops K (o::rest) s:=by
 obtain⟨dst,op,ty,pos,after,guard⟩:=o;unfold Um at h
 split at h
 ·rename_i hw;cases dst with
  | some d =>
   simp only at h;cases hd:Nat.blt d s.n with
   | true=>rw[hd] at h;exact Y6 hw hd h k
   | false=>rw[hd] at h;cases h
  | none =>
   simp only at h
   split at h
   ·rename_i t x y
    split at h
    ·rename_i j off z ab ai
     split at h
     ·rename_i cs b n hm eS;have Br:=se _ Q.ty eS;cases aA:Nat.beq n z.cells.length with
      | true =>
       rw[aA] at h;simp only[cond_true] at h
       split at h
       ·rename_i ds hp;cases h;have:e7 P t b n:=⟨Br⟩;exact Zd hw ab ai hm aA hp k
       ·cases h
      | false=>rw[aA] at h;cases h
     ·cases h
    ·cases h
   ·cases h
 ·rename_i hw;cases dst with
  | some d =>
   simp only at h;cases hd:Nat.blt d s.n with
   | true=>rw[hd] at h;cases h;exact NX hw (fun d' e=>by cases e;exact hd) k
   | false=>rw[hd] at h;cases h
  | none=>cases h;exact NX hw (fun d' e=>by cases e) k
 ·cases h
end
end Go.Proofs.YtklpfooafbjnpaaGreat
namespace Go.Proofs.YtklpfooafbjnpaaGreat
instance:e7 ah 3 false 1:=⟨by kernel_rfl⟩
instance:HO ah 3 .i64:=⟨by kernel_rfl⟩
instance:e7 ah 4 false 1:=⟨by kernel_rfl⟩
instance:nZ ah 22 [.int .i64 0,.int .i64 0,.int .i64 0,.int .i64 0,.int .i64 0]:=⟨by kernel_rfl⟩
instance:hH ah 22 5:=⟨by kernel_rfl⟩
instance:e7 ah 26 false 1:=⟨by kernel_rfl⟩
instance:e7 ah 28 false 1:=⟨by kernel_rfl⟩
instance:nZ ah 28 [.int .i64 0,.int .i64 0,.int .i64 0,.int .i64 0,.int .i64 0]:=⟨by kernel_rfl⟩
instance:hH ah 28 5:=⟨by kernel_rfl⟩
instance:e7 ah 41 false 1:=⟨by kernel_rfl⟩
instance:nZ ah 41 [.int .i64 0,.int .i64 0]:=⟨by kernel_rfl⟩
instance:hH ah 41 2:=⟨by kernel_rfl⟩
instance:e7 ah 42 false 1:=⟨by kernel_rfl⟩
instance:nZ ah 42 [.slice none 0 0,.slice none 0 0]:=⟨by kernel_rfl⟩
instance:hH ah 42 2:=⟨by kernel_rfl⟩
instance:e7 ah 44 true 10:=⟨by kernel_rfl⟩
instance:qH ah 44 0 0:=⟨by kernel_rfl⟩
instance:qH ah 44 2 2:=⟨by kernel_rfl⟩
instance:qH ah 44 9 9:=⟨by kernel_rfl⟩
instance:e7 ah 50 true 2:=⟨by kernel_rfl⟩
instance:e7 ah 51 false 1:=⟨by kernel_rfl⟩
instance:nZ ah 51 [.int .i64 0]:=⟨by kernel_rfl⟩
instance:hH ah 51 1:=⟨by kernel_rfl⟩
instance:e7 ah 53 true 2:=⟨by kernel_rfl⟩
instance:qH ah 53 1 1:=⟨by kernel_rfl⟩
instance:e7 ah 60 true 2:=⟨by kernel_rfl⟩
instance:e7 ah 65 false 1:=⟨by kernel_rfl⟩
instance:nZ ah 65 [.slice none 0 0]:=⟨by kernel_rfl⟩
instance:hH ah 65 1:=⟨by kernel_rfl⟩
instance:e7 ah 70 false 1:=⟨by kernel_rfl⟩
instance:e7 ah 73 true 6:=⟨by kernel_rfl⟩
instance:e7 ah 95 true 5:=⟨by kernel_rfl⟩
instance:nZ ah 100 [.int .i64 0,.int .i64 0,.int .i64 0,.int .i64 0]:=⟨by kernel_rfl⟩
instance:hH ah 100 4:=⟨by kernel_rfl⟩
instance:qH ah 102 0 0:=⟨by kernel_rfl⟩
instance:qH ah 102 1 1:=⟨by kernel_rfl⟩
instance:e7 ah 121 true 6:=⟨by kernel_rfl⟩
instance:e7 ah 127 false 1:=⟨by kernel_rfl⟩
instance:nZ ah 127 [.int .i64 0,.int .i64 0]:=⟨by kernel_rfl⟩
instance:hH ah 127 2:=⟨by kernel_rfl⟩
instance:e7 ah 137 true 2:=⟨by kernel_rfl⟩
instance:nZ ah 144 [.int .i64 0,.int .i64 0,.int .i64 0]:=⟨by kernel_rfl⟩
instance:hH ah 144 3:=⟨by kernel_rfl⟩
instance:e7 ah 180 true 2:=⟨by kernel_rfl⟩
instance:e7 ah 182 true 4:=⟨by kernel_rfl⟩
instance:e7 ah 184 true 13:=⟨by kernel_rfl⟩
instance:e7 ah 188 true 4:=⟨by kernel_rfl⟩
instance:e7 ah 237 true 4:=⟨by kernel_rfl⟩
instance:hH ah 254 5:=⟨by kernel_rfl⟩
instance:e7 ah 288 false 1:=⟨by kernel_rfl⟩
instance:HO ah 288 .u64:=⟨by kernel_rfl⟩
instance:e7 ah 293 true 3:=⟨by kernel_rfl⟩
instance:qH ah 293 1 2:=⟨by kernel_rfl⟩
instance:nZ ah 303 [.slice none 0 0]:=⟨by kernel_rfl⟩
instance:hH ah 303 1:=⟨by kernel_rfl⟩
instance:nZ ah 304 [.slice none 0 0]:=⟨by kernel_rfl⟩
instance:hH ah 304 1:=⟨by kernel_rfl⟩
instance:e7 ah 321 true 3:=⟨by kernel_rfl⟩
instance:e7 ah 323 true 10:=⟨by kernel_rfl⟩
instance:e7 ah 346 true 4:=⟨by kernel_rfl⟩
instance:e7 ah 350 true 2:=⟨by kernel_rfl⟩
instance:Enters ah 16:=⟨by kernel_rfl⟩
instance:Enters ah 22:=⟨by kernel_rfl⟩
instance:Enters ah 23:=⟨by kernel_rfl⟩
instance:Enters ah 24:=⟨by kernel_rfl⟩
instance:Enters ah 28:=⟨by kernel_rfl⟩
instance:Enters ah 32:=⟨by kernel_rfl⟩
instance:Enters ah 33:=⟨by kernel_rfl⟩
instance:Enters ah 37:=⟨by kernel_rfl⟩
instance:Enters ah 38:=⟨by kernel_rfl⟩
instance:Enters ah 39:=⟨by kernel_rfl⟩
instance:Enters ah 43:=⟨by kernel_rfl⟩
instance:Enters ah 44:=⟨by kernel_rfl⟩
instance:Enters ah 45:=⟨by kernel_rfl⟩
instance:Enters ah 46:=⟨by kernel_rfl⟩
instance:Enters ah 47:=⟨by kernel_rfl⟩
instance:Enters ah 48:=⟨by kernel_rfl⟩
instance:Enters ah 49:=⟨by kernel_rfl⟩
instance:Enters ah 50:=⟨by kernel_rfl⟩
instance:Enters ah 51:=⟨by kernel_rfl⟩
instance:Enters ah 52:=⟨by kernel_rfl⟩
instance:Enters ah 53:=⟨by kernel_rfl⟩
instance:Enters ah 54:=⟨by kernel_rfl⟩
instance:Enters ah 56:=⟨by kernel_rfl⟩
instance:Enters ah 57:=⟨by kernel_rfl⟩
instance:Enters ah 58:=⟨by kernel_rfl⟩
instance:Enters ah 59:=⟨by kernel_rfl⟩
instance:Enters ah 60:=⟨by kernel_rfl⟩
instance:Enters ah 61:=⟨by kernel_rfl⟩
instance:Enters ah 62:=⟨by kernel_rfl⟩
instance:Enters ah 63:=⟨by kernel_rfl⟩
instance:Enters ah 72:=⟨by kernel_rfl⟩
instance:Enters ah 73:=⟨by kernel_rfl⟩
instance:Enters ah 74:=⟨by kernel_rfl⟩
instance:Enters ah 75:=⟨by kernel_rfl⟩
instance:Enters ah 76:=⟨by kernel_rfl⟩
instance:Enters ah 80:=⟨by kernel_rfl⟩
instance:Enters ah 81:=⟨by kernel_rfl⟩
instance:Enters ah 82:=⟨by kernel_rfl⟩
instance:Enters ah 83:=⟨by kernel_rfl⟩
instance:Enters ah 84:=⟨by kernel_rfl⟩
instance:Enters ah 92:=⟨by kernel_rfl⟩
instance:Enters ah 93:=⟨by kernel_rfl⟩
instance:Enters ah 94:=⟨by kernel_rfl⟩
instance:Enters ah 95:=⟨by kernel_rfl⟩
instance:Enters ah 96:=⟨by kernel_rfl⟩
instance:Enters ah 97:=⟨by kernel_rfl⟩
instance:Enters ah 98:=⟨by kernel_rfl⟩
instance:Enters ah 99:=⟨by kernel_rfl⟩
instance:Enters ah 100:=⟨by kernel_rfl⟩
instance:Enters ah 102:=⟨by kernel_rfl⟩
instance:Enters ah 103:=⟨by kernel_rfl⟩
instance:Enters ah 104:=⟨by kernel_rfl⟩
instance:Enters ah 105:=⟨by kernel_rfl⟩
instance:Enters ah 106:=⟨by kernel_rfl⟩
instance:Enters ah 107:=⟨by kernel_rfl⟩
instance:Enters ah 108:=⟨by kernel_rfl⟩
instance:Enters ah 109:=⟨by kernel_rfl⟩
instance:Enters ah 110:=⟨by kernel_rfl⟩
instance:Enters ah 129:=⟨by kernel_rfl⟩
instance:Enters ah 130:=⟨by kernel_rfl⟩
instance:Enters ah 131:=⟨by kernel_rfl⟩
instance:Enters ah 132:=⟨by kernel_rfl⟩
instance:Enters ah 133:=⟨by kernel_rfl⟩
instance:Enters ah 134:=⟨by kernel_rfl⟩
instance:Enters ah 135:=⟨by kernel_rfl⟩
instance:Enters ah 136:=⟨by kernel_rfl⟩
instance:Enters ah 137:=⟨by kernel_rfl⟩
instance:Enters ah 138:=⟨by kernel_rfl⟩
instance:Enters ah 139:=⟨by kernel_rfl⟩
instance:Enters ah 140:=⟨by kernel_rfl⟩
instance:Enters ah 141:=⟨by kernel_rfl⟩
instance:Enters ah 142:=⟨by kernel_rfl⟩
instance:Enters ah 143:=⟨by kernel_rfl⟩
instance:Enters ah 144:=⟨by kernel_rfl⟩
instance:Enters ah 145:=⟨by kernel_rfl⟩
instance:Enters ah 146:=⟨by kernel_rfl⟩
instance:Enters ah 151:=⟨by kernel_rfl⟩
instance:Enters ah 153:=⟨by kernel_rfl⟩
instance:Enters ah 154:=⟨by kernel_rfl⟩
instance:Enters ah 155:=⟨by kernel_rfl⟩
instance:Enters ah 161:=⟨by kernel_rfl⟩
instance:Enters ah 162:=⟨by kernel_rfl⟩
instance:Enters ah 163:=⟨by kernel_rfl⟩
instance:Enters ah 166:=⟨by kernel_rfl⟩
instance:Enters ah 184:=⟨by kernel_rfl⟩
instance:Enters ah 185:=⟨by kernel_rfl⟩
instance:Enters ah 186:=⟨by kernel_rfl⟩
instance:Enters ah 187:=⟨by kernel_rfl⟩
instance:Enters ah 188:=⟨by kernel_rfl⟩
instance:Enters ah 189:=⟨by kernel_rfl⟩
instance:Enters ah 190:=⟨by kernel_rfl⟩
instance:Enters ah 191:=⟨by kernel_rfl⟩
instance:Enters ah 192:=⟨by kernel_rfl⟩
instance:Enters ah 193:=⟨by kernel_rfl⟩
instance:Enters ah 194:=⟨by kernel_rfl⟩
instance:Enters ah 195:=⟨by kernel_rfl⟩
instance:Enters ah 196:=⟨by kernel_rfl⟩
instance:Enters ah 197:=⟨by kernel_rfl⟩
instance:Enters ah 198:=⟨by kernel_rfl⟩
instance:Enters ah 199:=⟨by kernel_rfl⟩
instance:Enters ah 200:=⟨by kernel_rfl⟩
instance:Enters ah 201:=⟨by kernel_rfl⟩
instance:Enters ah 203:=⟨by kernel_rfl⟩
instance:Enters ah 204:=⟨by kernel_rfl⟩
instance:Enters ah 205:=⟨by kernel_rfl⟩
instance:Enters ah 207:=⟨by kernel_rfl⟩
instance:Enters ah 210:=⟨by kernel_rfl⟩
instance:Enters ah 212:=⟨by kernel_rfl⟩
instance:Enters ah 213:=⟨by kernel_rfl⟩
instance:Enters ah 215:=⟨by kernel_rfl⟩
instance:Enters ah 216:=⟨by kernel_rfl⟩
instance:Enters ah 217:=⟨by kernel_rfl⟩
instance:Enters ah 218:=⟨by kernel_rfl⟩
instance:Enters ah 221:=⟨by kernel_rfl⟩
instance:Enters ah 222:=⟨by kernel_rfl⟩
instance:Enters ah 223:=⟨by kernel_rfl⟩
instance:Enters ah 239:=⟨by kernel_rfl⟩
instance:Enters ah 240:=⟨by kernel_rfl⟩
instance:Enters ah 241:=⟨by kernel_rfl⟩
instance:Enters ah 242:=⟨by kernel_rfl⟩
instance:Enters ah 243:=⟨by kernel_rfl⟩
instance:Enters ah 244:=⟨by kernel_rfl⟩
instance:Enters ah 245:=⟨by kernel_rfl⟩
instance:Enters ah 246:=⟨by kernel_rfl⟩
instance:Enters ah 247:=⟨by kernel_rfl⟩
instance:Enters ah 248:=⟨by kernel_rfl⟩
instance:Enters ah 249:=⟨by kernel_rfl⟩
instance:Enters ah 250:=⟨by kernel_rfl⟩
instance:Enters ah 251:=⟨by kernel_rfl⟩
instance:Enters ah 252:=⟨by kernel_rfl⟩
instance:Enters ah 254:=⟨by kernel_rfl⟩
instance:Enters ah 255:=⟨by kernel_rfl⟩
instance:Enters ah 256:=⟨by kernel_rfl⟩
instance:Enters ah 257:=⟨by kernel_rfl⟩
instance:Enters ah 258:=⟨by kernel_rfl⟩
instance:Enters ah 259:=⟨by kernel_rfl⟩
instance:Enters ah 260:=⟨by kernel_rfl⟩
instance:Enters ah 263:=⟨by kernel_rfl⟩
instance:Enters ah 266:=⟨by kernel_rfl⟩
instance:Enters ah 276:=⟨by kernel_rfl⟩
instance:Enters ah 277:=⟨by kernel_rfl⟩
instance:Enters ah 278:=⟨by kernel_rfl⟩
instance:Enters ah 279:=⟨by kernel_rfl⟩
instance:Enters ah 280:=⟨by kernel_rfl⟩
instance:Enters ah 281:=⟨by kernel_rfl⟩
instance:Enters ah 282:=⟨by kernel_rfl⟩
instance:Enters ah 283:=⟨by kernel_rfl⟩
instance:Enters ah 284:=⟨by kernel_rfl⟩
instance:Enters ah 285:=⟨by kernel_rfl⟩
instance:Enters ah 286:=⟨by kernel_rfl⟩
instance:Enters ah 287:=⟨by kernel_rfl⟩
instance:Enters ah 288:=⟨by kernel_rfl⟩
instance:Enters ah 289:=⟨by kernel_rfl⟩
instance:Enters ah 290:=⟨by kernel_rfl⟩
instance:Enters ah 292:=⟨by kernel_rfl⟩
instance:Enters ah 293:=⟨by kernel_rfl⟩
instance:Enters ah 294:=⟨by kernel_rfl⟩
instance:Enters ah 295:=⟨by kernel_rfl⟩
instance:Enters ah 298:=⟨by kernel_rfl⟩
instance:Enters ah 299:=⟨by kernel_rfl⟩
instance:Enters ah 300:=⟨by kernel_rfl⟩
instance:Enters ah 301:=⟨by kernel_rfl⟩
instance:Enters ah 303:=⟨by kernel_rfl⟩
instance:Enters ah 304:=⟨by kernel_rfl⟩
instance:Enters ah 305:=⟨by kernel_rfl⟩
instance:Enters ah 306:=⟨by kernel_rfl⟩
instance:Enters ah 307:=⟨by kernel_rfl⟩
instance:Enters ah 308:=⟨by kernel_rfl⟩
instance:Enters ah 309:=⟨by kernel_rfl⟩
instance:Enters ah 310:=⟨by kernel_rfl⟩
instance:Enters ah 312:=⟨by kernel_rfl⟩
instance:Enters ah 313:=⟨by kernel_rfl⟩
instance:Enters ah 314:=⟨by kernel_rfl⟩
instance:Enters ah 315:=⟨by kernel_rfl⟩
instance:Enters ah 316:=⟨by kernel_rfl⟩
instance:Enters ah 317:=⟨by kernel_rfl⟩
instance:Enters ah 318:=⟨by kernel_rfl⟩
instance:Enters ah 319:=⟨by kernel_rfl⟩
instance:Enters ah 323:=⟨by kernel_rfl⟩
instance:Enters ah 324:=⟨by kernel_rfl⟩
instance:Enters ah 325:=⟨by kernel_rfl⟩
instance:Enters ah 326:=⟨by kernel_rfl⟩
instance:Enters ah 328:=⟨by kernel_rfl⟩
instance:Enters ah 329:=⟨by kernel_rfl⟩
instance:Enters ah 332:=⟨by kernel_rfl⟩
instance:Enters ah 333:=⟨by kernel_rfl⟩
instance:Enters ah 335:=⟨by kernel_rfl⟩
instance:Enters ah 336:=⟨by kernel_rfl⟩
instance:Enters ah 337:=⟨by kernel_rfl⟩
instance:Enters ah 338:=⟨by kernel_rfl⟩
instance:Enters ah 339:=⟨by kernel_rfl⟩
def tab:Au where
 ty:=[(0,false,1),(1,false,1),(2,false,1),(3,false,1),(4,false,1),(9,false,1),(20,false,1),(22,false,1),(25,false,1),(26,false,1),(28,false,1),(41,false,1),(42,false,1),(44,true,10),(46,false,1),(50,true,2),(51,false,1),(53,true,2),(60,true,2),(63,true,5),(65,false,1),(67,true,6),(69,false,1),(70,false,1),(71,false,1),(73,true,6),(95,true,5),(97,false,1),(100,false,1),(102,true,13),(104,false,1),(111,true,4),(121,true,6),(125,false,1),(127,false,1),(130,true,5),(134,false,1),(136,false,1),(137,true,2),(139,false,1),(140,false,1),(143,false,1),(144,false,1),(146,true,1),(148,true,2),(174,false,1),(176,false,1),(178,false,1),(180,true,2),(182,true,4),(184,true,13),(186,false,1),(188,true,4),(191,false,1),(194,false,1),(196,false,1),(199,false,1),(201,true,6),(212,false,1),(213,false,1),(234,false,1),(237,true,4),(254,false,1),(262,false,1),(263,false,1),(281,false,1),(284,false,1),(288,false,1),(289,false,1),(291,false,1),(293,true,3),(298,true,5),(300,false,1),(303,false,1),(304,false,1),(305,false,1),(319,true,6),(321,true,3),(323,true,10),(325,false,1),(326,true,4),(327,false,1),(328,false,1),(330,false,1),(334,false,1),(346,true,4),(350,true,2),(351,false,1),(360,false,1),(366,false,1)]
 zero:=[(1,[.nilFunc]),(2,[.int .i64 0]),(3,[.int .i64 0]),(4,[.bool false]),(9,[.string ByteArray.empty]),(20,[.nilIface]),(22,[.slice none 0 0]),(25,[.nilFunc]),(26,[.pointer none]),(28,[.slice none 0 0]),(41,[.slice none 0 0]),(42,[.slice none 0 0]),(44,[.int .i64 0,.int .i64 0,.int .i64 0,.int .i64 0,.int .i64 0,.int .i64 0,.bool false,.slice none 0 0,.slice none 0 0,.slice none 0 0]),(50,[.int .i64 0,.int .i64 0]),(51,[.slice none 0 0]),(53,[.slice none 0 0,.slice none 0 0]),(60,[.int .i64 0,.int .i64 0]),(63,[.int .i64 0,.int .i64 0,.int .i64 0,.int .i64 0,.int .i64 0]),(65,[.slice none 0 0]),(67,[.slice none 0 0,.slice none 0 0,.int .i64 0,.int .i64 0,.int .i64 0,.int .i64 0]),(69,[.pointer none]),(70,[.int .i64 0]),(73,[.slice none 0 0,.slice none 0 0,.int .i64 0,.int .i64 0,.int .i64 0,.int .i64 0]),(95,[.int .i64 0,.int .i64 0,.int .i64 0,.int .i64 0,.int .i64 0]),(97,[.pointer none]),(100,[.slice none 0 0]),(102,[.slice none 0 0,.int .i64 0,.int .i64 0,.int .i64 0,.int .i64 0,.int .i64 0,.int .i64 0,.bool false,.slice none 0 0,.slice none 0 0,.slice none 0 0,.pointer none,.slice none 0 0]),(104,[.nilFunc]),(111,[.nilFunc,.nilFunc,.nilFunc,.nilFunc]),(121,[.int .i64 0,.int .i64 0,.int .i64 0,.int .i64 0,.int .i64 0,.int .i64 0]),(125,[.nilFunc]),(127,[.slice none 0 0]),(130,[.slice none 0 0,.int .i64 0,.int .i64 0,.int .i64 0,.pointer none]),(134,[.chan none]),(137,[.slice none 0 0,.slice none 0 0]),(139,[.nilFunc]),(140,[.nilFunc]),(143,[.nilFunc]),(144,[.slice none 0 0]),(146,[.slice none 0 0]),(148,[.slice none 0 0,.int .i64 0]),(176,[.nilFunc]),(178,[.int .u64 0]),(180,[.int .i64 0,.int .u64 0]),(182,[.int .i64 0,.int .u64 0,.int .i64 0,.int .u64 0]),(184,[.int .i64 0,.int .i64 0,.int .u64 0,.int .i64 0,.int .u64 0,.int .i64 0,.int .u64 0,.int .i64 0,.int .u64 0,.int .i64 0,.int .i64 0,.int .i64 0,.int .i64 0]),(186,[.pointer none]),(188,[.int .i64 0,.int .i64 0,.int .i64 0,.int .i64 0]),(194,[.nilFunc]),(201,[.nilFunc,.nilFunc,.nilFunc,.nilFunc,.nilFunc,.nilFunc]),(212,[.chan none]),(213,[.nilFunc]),(237,[.int .i64 0,.int .i64 0,.int .i64 0,.int .i64 0]),(254,[.slice none 0 0]),(262,[.nilFunc]),(263,[.nilFunc]),(288,[.int .u64 0]),(291,[.pointer none]),(293,[.int .i64 0,.int .i64 0,.int .i64 0]),(298,[.int .i64 0,.int .i64 0,.int .i64 0,.int .i64 0,.int .i64 0]),(300,[.map none]),(303,[.slice none 0 0]),(304,[.slice none 0 0]),(305,[.nilFunc]),(319,[.int .i64 0,.int .i64 0,.int .i64 0,.int .i64 0,.bool false,.bool false]),(321,[.int .i64 0,.int .i64 0,.bool false]),(323,[.int .i64 0,.int .i64 0,.int .i64 0,.int .i64 0,.int .i64 0,.int .i64 0,.bool false,.int .i64 0,.int .i64 0,.bool false]),(325,[.nilFunc]),(326,[.nilFunc,.nilFunc,.nilFunc,.nilFunc]),(327,[.int .u32 0]),(334,[.nilFunc]),(346,[.int .i64 0,.int .i64 0,.int .i64 0,.int .i64 0]),(350,[.int .u64 0,.int .u64 0])]
 pk:=[(44,[(0,0),(1,1),(2,2),(3,3),(4,4),(5,5),(6,6),(7,7),(8,8),(9,9)]),(50,[(0,0),(1,1)]),(53,[(0,0),(1,1)]),(60,[(0,0),(1,1)]),(63,[(0,0),(1,2),(2,4)]),(67,[(0,0),(1,1),(2,2),(3,3),(4,4),(5,5)]),(73,[(0,0),(1,1),(2,2),(3,3),(4,4),(5,5)]),(95,[(0,0),(1,2),(2,4)]),(102,[(0,0),(1,1),(2,11),(3,12)]),(130,[(0,0),(1,1),(2,2),(3,3),(4,4)]),(146,[(0,0)]),(148,[(0,0),(1,1)]),(180,[(0,0),(1,1)]),(182,[(0,0),(1,2)]),(184,[(0,0),(1,1),(2,5),(3,9),(4,11)]),(188,[(0,0),(1,2)]),(237,[(0,0),(1,2)]),(293,[(0,0),(1,2)]),(298,[(0,0),(1,4)]),(319,[(0,0),(1,2),(2,4),(3,5)]),(321,[(0,0),(1,1),(2,2)]),(323,[(0,0),(1,2),(2,4),(3,7)]),(346,[(0,0),(1,2)]),(350,[(0,0),(1,1)])]
 oH:=[(111,4,1),(121,6,1),(137,2,1),(201,6,1),(326,4,1)]
 jK:=[(44,[(0,1),(1,1),(2,1),(3,1),(4,1),(5,1),(6,1),(7,1),(8,1),(9,1)]),(50,[(0,1),(1,1)]),(53,[(0,1),(1,1)]),(60,[(0,1),(1,1)]),(63,[(0,2),(2,2),(4,1)]),(67,[(0,1),(1,1),(2,1),(3,1),(4,1),(5,1)]),(73,[(0,1),(1,1),(2,1),(3,1),(4,1),(5,1)]),(95,[(0,2),(2,2),(4,1)]),(102,[(0,1),(1,10),(11,1),(12,1)]),(111,[(0,1),(1,1),(2,1),(3,1)]),(121,[(0,1),(1,1),(2,1),(3,1),(4,1),(5,1)]),(130,[(0,1),(1,1),(2,1),(3,1),(4,1)]),(137,[(0,1),(1,1)]),(146,[(0,1)]),(148,[(0,1),(1,1)]),(180,[(0,1),(1,1)]),(182,[(0,2),(2,2)]),(184,[(0,1),(1,4),(5,4),(9,2),(11,2)]),(188,[(0,2),(2,2)]),(201,[(0,1),(1,1),(2,1),(3,1),(4,1),(5,1)]),(237,[(0,2),(2,2)]),(293,[(0,2),(2,1)]),(298,[(0,4),(4,1)]),(319,[(0,2),(2,2),(4,1),(5,1)]),(321,[(0,1),(1,1),(2,1)]),(323,[(0,2),(2,2),(4,3),(7,3)]),(326,[(0,1),(1,1),(2,1),(3,1)]),(346,[(0,2),(2,2)]),(350,[(0,1),(1,1)])]
theorem yn{α β:Type}{g h:α→β}:∀l:List α,l.map g=l.map h→mG (fun p=>g p=h p) l
 | [],_=>trivial
 | a::l,e=>by
  rw[hQ,hQ,List.cons.injEq] at e;exact⟨e.1,yn l e.2⟩
theorem N1{α β γ:Type}{k:α→List γ}{g h:α→γ→β}:∀l:List α,(l.map fun p=>(k p).map (g p))=(l.map fun p=>(k p).map (h p))→mG (fun p=>mG (fun q=>g p q=h p q) (k p)) l
 | [],_=>trivial
 | a::l,e=>by
  rw[hQ,hQ,List.cons.injEq] at e;exact⟨yn _ e.1,N1 l e.2⟩
theorem al3:mG (fun p=>lG ah p.1=some p.2) tab.ty:=yn _ (by kernel_rfl)
theorem al4:mG (fun p=>zeroOf ah p.1=some p.2) tab.zero:=yn _ (by kernel_rfl)
theorem al0:mG (fun p=>Ec ah p.1=some p.2) tab.oH:=yn _ (by kernel_rfl)
theorem al2:mG (fun p=>GJ ah p.1=some p.2) tab.jK:=yn _ (by kernel_rfl)
theorem al1:mG (fun p=>mG (fun q=>wT ah p.1 q.1=some q.2) p.2) tab.pk:=N1 _ (by kernel_rfl)
instance:HW ah tab:=⟨al3,al4,al1,al0,al2⟩
end Go.Proofs.YtklpfooafbjnpaaGreat
namespace Go.Proofs.YtklpfooafbjnpaaGreat
open Go.RowKit
section
variable{P:Program}{s:aB}{ops:Array Oper}{K:aB→Prop}{rest:List Oper}{ty:Nat}{pos:String}{after:Array Edge}{guard:Option (Nat×Bool)}{d:Nat}
theorem YW{dk:Nat}{x:Operand}{k:IntKind}{a c:Int}(hw:want ops ⟨some d,.unOp .neg dk x,ty,pos,after,guard⟩ s=some true)(ab:s.look x=some (aQ (.int k a)))(ak:k.wrap (-a)=c)(hd:Nat.blt d s.n=true)(h:bm P ops K rest (s.put (some d) (aQ (.int k c)))):bm P ops K (⟨some d,.unOp .neg dk x,ty,pos,after,guard⟩::rest) s:=by
 refine NZ hw ab (fun W => ?_) rfl hd h;rw[←ak,show -a=0-a by omega];cases k <;> rfl
theorem NY{dk dQ:Nat}{x y:Operand}{k:IntKind}{a b:Int}(hw:want ops ⟨some d,.binOp .rem dk x y dQ,ty,pos,after,guard⟩ s=some true)(ab:s.look x=some (aQ (.int k a)))(ai:s.look y=some (aQ (.int k b)))(aF:0≤a)(h1:0<b)(hd:Nat.blt d s.n=true)(h:bm P ops K rest (s.put (some d) (aQ (.int k (a % b))))):bm P ops K (⟨some d,.binOp .rem dk x y dQ,ty,pos,after,guard⟩::rest) s:=by
 refine qU hw ab ai (fun W => ?_) rfl hd h;have aa:b≠0:=by omega
 have e:a.tmod b=a % b:=Int.tmod_eq_emod_of_nonneg aF;rw[←e];cases k <;> simp[binOp,Op.intDiv,aa] <;> rfl
end
abbrev kk(l1 l2 h1 h2:Int):ag := .w (.agg [.c (.int .i64 l1),.c (.int .i64 l2),.c (.int .i64 h1),.c (.int .i64 h2)])
def dK(a b c d:Int):Bool:=decide (a=c)&&decide (b=d)
theorem q6{a b c d:Int}:dK a b c d=true↔a=c∧b=d:=by unfold dK;rw[ef,cU,cU]
def wQ(a b c d a' b0 c' d':Int):Bool:=dK a b a' b0&&dK c d c' d'
class DC (P:Program) (t:TypeId):Prop where
 g:P.eqGuardType P.depth t=false
 h:∀(a b c d:Int) W,(Op.equalIn 10000 t (.agg #[.int .i64 a,.int .i64 b]) (.agg #[.int .i64 c,.int .i64 d])).run P W = .ok (dK a b c d) W
class Na (P:Program) (t:TypeId):Prop where
 g:P.eqGuardType P.depth t=false
 h:∀(a b c d a' b0 c' d':Int) W,(Op.equalIn 10000 t (.agg #[.int .i64 a,.int .i64 b,.int .i64 c,.int .i64 d]) (.agg #[.int .i64 a',.int .i64 b0,.int .i64 c',.int .i64 d'])).run P W = .ok (wQ a b c d a' b0 c' d') W
theorem EM{P:Program}{op:BinOp}{t:TypeId}{x y:Operand}{u v:Array Value}{W:World}(aw:P.eqGuardType P.depth t=false):(eqGuard op t x y (.agg u) (.agg v)).run P W = .ok () W:=by
 unfold eqGuard;cases op <;> first|rfl|simp[Sem.run_bind,program,Sem.run,Result.andThen,aw]
section
variable{P:Program}{s:aB}{ops:Array Oper}{K:aB→Prop}{rest:List Oper}{ty:Nat}{pos:String}{after:Array Edge}{guard:Option (Nat×Bool)}{d:Nat}
theorem YB{t dQ:Nat}{x y:Operand}{a b a' b0:Int} [E:DC P t](hw:want ops ⟨some d,.binOp .eql t x y dQ,ty,pos,after,guard⟩ s=some true)(ab:s.look x=some (bn a b))(ai:s.look y=some (bn a' b0))(hd:Nat.blt d s.n=true)(h:bm P ops K rest (s.put (some d) (bl (dK a b a' b0)))):bm P ops K (⟨some d,.binOp .eql t x y dQ,ty,pos,after,guard⟩::rest) s :=
 wB hw ab ai rfl rfl (fun W=>EM E.g) (fun W=>by rw[run_eql_struct,E.h];rfl) rfl hd h
theorem YZ{t dQ:Nat}{x y:Operand}{a b a' b0:Int} [E:DC P t](hw:want ops ⟨some d,.binOp .neq t x y dQ,ty,pos,after,guard⟩ s=some true)(ab:s.look x=some (bn a b))(ai:s.look y=some (bn a' b0))(hd:Nat.blt d s.n=true)(h:bm P ops K rest (s.put (some d) (bl (!dK a b a' b0)))):bm P ops K (⟨some d,.binOp .neq t x y dQ,ty,pos,after,guard⟩::rest) s :=
 wB hw ab ai rfl rfl (fun W=>EM E.g) (fun W=>by rw[run_neq_struct,E.h];rfl) rfl hd h
theorem YA{t dQ:Nat}{x y:Operand}{a b c e a' b0 c' e':Int} [E:Na P t](hw:want ops ⟨some d,.binOp .eql t x y dQ,ty,pos,after,guard⟩ s=some true)(ab:s.look x=some (kk a b c e))(ai:s.look y=some (kk a' b0 c' e'))(hd:Nat.blt d s.n=true)(h:bm P ops K rest (s.put (some d) (bl (wQ a b c e a' b0 c' e')))):bm P ops K (⟨some d,.binOp .eql t x y dQ,ty,pos,after,guard⟩::rest) s :=
 wB hw ab ai rfl rfl (fun W=>EM E.g) (fun W=>by rw[run_eql_struct,E.h];rfl) rfl hd h
end
theorem aaZ(a b c d:Int)(W:World):(Op.equalIn 10000 50 (.agg #[.int .i64 a,.int .i64 b]) (.agg #[.int .i64 c,.int .i64 d])).run ah W = .ok (dK a b c d) W:=by
 unfold dK
 go_simp
 by_cases h1:a=c <;> by_cases h2:b=d <;> simp[h1,h2]
instance an4:DC ah 50:=⟨by kernel_rfl,aaZ⟩
theorem aaY(a b c d:Int)(W:World):(Op.equalIn 10000 60 (.agg #[.int .i64 a,.int .i64 b]) (.agg #[.int .i64 c,.int .i64 d])).run ah W = .ok (dK a b c d) W:=by
 unfold dK
 go_simp
 by_cases h1:a=c <;> by_cases h2:b=d <;> simp[h1,h2]
instance an5:DC ah 60:=⟨by kernel_rfl,aaY⟩
def u4(n:Int):Bool:=decide (-536870912≤n)&&decide (n≤536870912)
theorem Po{n:Int}:u4 n=true ↔ -536870912≤n∧n≤536870912:=by unfold u4;rw[ef,cU,cU]
def eE(x y:Int):Bool:=u4 x&&u4 y
theorem Uo{x y:Int}:eE x y=true↔(-536870912≤x∧x≤536870912) ∧ -536870912≤y∧y≤536870912:=by unfold eE;rw[ef,Po,Po]
theorem Tv{n:Int}{b:Bool}(aa:u4 n=b):aP ah 307 [aL n] (bl b):=by
 have cs:(-536870912≤n∧n≤536870912∧b=true)∨(-536870912≤n∧¬n≤536870912∧b=false)∨(¬ -536870912≤n∧b=false):=by
  rw[←aa];unfold u4
  by_cases h1 : -536870912≤n <;> by_cases h2:n≤536870912 <;> simp[h1,h2]
 clear aa;rcases cs with ⟨h1,h2,rfl⟩|⟨h1,h2,rfl⟩|⟨h1,rfl⟩
 all_goals
  refine bp (f:=307) Tryz.func307 rfl rfl rfl rfl ?_;(repeat first|refine dd ?_|(with_reducible apply bT (c:=true));rfl;rfl;(exact b5 (by omega))|(with_reducible apply bT (c:=false));rfl;rfl;(exact b8 (by omega)))
  ((refine bk rfl (aX rfl aM) ?_))
  first|exact ag.aU.refl _|exact ag.aU.of_eq (by rw[b5 h2];rfl)|exact ag.aU.of_eq (by rw[b8 h2];rfl)
theorem uj{x y:Int}{b:Bool}(aa:eE x y=b):aP ah 277 [bn x y] (bl b):=by
 have a8:=Tv (n:=x) rfl;have bL:=Tv (n:=y) rfl;unfold eE at aa;cases q1:u4 x <;> cases q2:u4 y <;> rw[q1] at a8 <;> rw[q2] at bL <;> rw[q1,q2] at aa <;> subst aa <;> clear q1 q2
 all_goals
  refine bp (f:=277) Tryz.func277 rfl rfl rfl rfl ?_;(refine cI ?_)
  ((refine bk rfl (aX rfl aM) ?_))
  exact ag.aU.refl _
def cq(o1 o2 a1 a2 b1 b2:Int):Int:=(a1-o1)*(b2-o2)-(a2-o2)*(b1-o1)
theorem Ll{x y A B:Int}(h1 : -A≤x)(h2:x≤A)(ar : -B≤y)(aJ:y≤B) : -(A*B)≤x*y∧x*y≤A*B:=by
 have ab:x.natAbs≤A.natAbs:=by omega
 have ai:y.natAbs≤B.natAbs:=by omega
 have h:=Nat.mul_le_mul ab ai;rw[←Int.natAbs_mul,←Int.natAbs_mul] at h;have cr:0≤A*B:=hR (by omega) (by omega);omega
theorem SA{x y:Int}(h1 : -1073741824≤x)(h2:x≤1073741824)(ar : -1073741824≤y)(aJ:y≤1073741824) : -1152921504606846976≤x*y∧x*y≤1152921504606846976:=by
 have:=Ll h1 h2 ar aJ;omega
theorem Tm{o1 o2 a1 a2 b1 b2:Int}(aD:eE o1 o2=true)(aV:eE a1 a2=true)(aa:eE b1 b2=true):aP ah 242 [bn o1 o2,bn a1 a2,bn b1 b2] (aL (cq o1 o2 a1 a2 b1 b2)):=by
 have bg:=uj aD;have dS:=uj aV;have lK:=uj aa;rw[Uo] at aD aV aa;have m1:=SA (x:=a1-o1) (y:=b2-o2) (by omega) (by omega) (by omega) (by omega);have m2:=SA (x:=a2-o2) (y:=b1-o1) (by omega) (by omega) (by omega) (by omega);refine bp (f:=242) Tryz.func242 rfl rfl rfl rfl ?_;(refine cI ?_)
 ((refine bk rfl (aX rfl aM) ?_))
 exact ag.aU.refl _
theorem ahZ{o1 o2 a1 a2 b1 b2:Int}(h:(eE o1 o2&&eE a1 a2&&eE b1 b2)=false):aP ah 242 [bn o1 o2,bn a1 a2,bn b1 b2] (aL 0):=by
 have bg:=uj (x:=o1) (y:=o2) rfl;have dS:=uj (x:=a1) (y:=a2) rfl;have lK:=uj (x:=b1) (y:=b2) rfl
 have cs:eE o1 o2=false∨(eE o1 o2=true∧eE a1 a2=false)∨(eE o1 o2=true∧eE a1 a2=true∧eE b1 b2=false):=by
  generalize eE o1 o2=p at *;generalize eE a1 a2=q at *;generalize eE b1 b2=r at *;cases p <;> cases q <;> cases r <;> simp_all
 clear h;rcases cs with h1|⟨h1,h2⟩|⟨h1,h2,ar⟩ <;> simp only[*] at bg dS lK
 all_goals
  refine bp (f:=242) Tryz.func242 rfl rfl rfl rfl ?_;(refine cI ?_)
  ((refine bk rfl (aX rfl aM) ?_))
  exact ag.aU.refl _
def tz(o1 o2 a1 a2 b1 b2:Int):Int:=if (eE o1 o2&&eE a1 a2&&eE b1 b2)=true then cq o1 o2 a1 a2 b1 b2 else 0
theorem ahY{o1 o2 a1 a2 b1 b2:Int}:aP ah 242 [bn o1 o2,bn a1 a2,bn b1 b2] (aL (tz o1 o2 a1 a2 b1 b2)):=by
 unfold tz
 by_cases h:(eE o1 o2&&eE a1 a2&&eE b1 b2)=true
 ·rw[if_pos h];simp only[ef] at h;exact Tm h.1.1 h.1.2 h.2
 ·rw[if_neg h];exact ahZ (by simpa using h)
def ta(n:Int):Int:=if n<0 then -1 else if 0<n then 1 else 0
theorem aiq{o1 o2 a1 a2 b1 b2:Int}:aP ah 310 [bn o1 o2,bn a1 a2,bn b1 b2] (aL (ta (tz o1 o2 a1 a2 b1 b2))):=by
 have a8:=ahY (o1:=o1) (o2:=o2) (a1:=a1) (a2:=a2) (b1:=b1) (b2:=b2);generalize tz o1 o2 a1 a2 b1 b2=c at *;have cs:(c<0∧ta c = -1)∨(¬c<0∧0<c∧ta c=1)∨(¬c<0∧¬ 0<c∧ta c=0):=by unfold ta;repeat' split <;> omega
 rcases cs with ⟨h1,h⟩|⟨h1,h2,h⟩|⟨h1,h2,h⟩ <;> rw[h] <;> clear h
 all_goals
  refine bp (f:=310) Tryz.func310 rfl rfl rfl rfl ?_;(refine cI ?_)
  ((refine bk rfl (aX rfl aM) ?_))
  exact ag.aU.refl _
abbrev hM(a b:Int):Int:=if b<a then b else a
abbrev hL(a b:Int):Int:=if b>a then b else a
theorem ahV{a1 a2 b1 b2:Int}:aP ah 309 [bn a1 a2,bn b1 b2] (kk (hM a1 b1) (hM a2 b2) (hL a1 b1) (hL a2 b2)):=by
 refine bp (f:=309) Tryz.func309 rfl rfl rfl rfl ?_;(refine eI ?_)
 ((refine bk rfl (c7 rfl rfl rfl aM) ?_))
 exact ag.aU.refl _
def cY(l1 l2 h1 h2 p1 p2:Int):Bool:=decide (l1≤p1)&&decide (p1≤h1)&&decide (l2≤p2)&&decide (p2≤h2)
theorem aca{l1 l2 h1 h2 p1 p2:Int}:cY l1 l2 h1 h2 p1 p2=true↔l1≤p1∧p1≤h1∧l2≤p2∧p2≤h2:=by unfold cY;simp only[ef,cU,and_assoc]
theorem ah7{l1 l2 h1 h2 p1 p2:Int}{b:Bool}(aa:cY l1 l2 h1 h2 p1 p2=b):aP ah 308 [kk l1 l2 h1 h2,bn p1 p2] (bl b):=by
 have cs:(l1≤p1∧p1≤h1∧l2≤p2∧p2≤h2∧b=true)∨(l1≤p1∧p1≤h1∧l2≤p2∧¬p2≤h2∧b=false)∨(l1≤p1∧p1≤h1∧¬l2≤p2∧b=false)∨(l1≤p1∧¬p1≤h1∧b=false)∨(¬l1≤p1∧b=false):=by
  rw[←aa];unfold cY
  by_cases q1:l1≤p1 <;> by_cases q2:p1≤h1 <;> by_cases q3:l2≤p2 <;> by_cases q4:p2≤h2 <;> simp[q1,q2,q3,q4]
 clear aa;rcases cs with ⟨q1,q2,q3,q4,rfl⟩|⟨q1,q2,q3,q4,rfl⟩|⟨q1,q2,q3,rfl⟩|⟨q1,q2,rfl⟩|⟨q1,rfl⟩
 all_goals
  refine bp (f:=308) Tryz.func308 rfl rfl rfl rfl ?_;(repeat first|refine dd ?_|(with_reducible apply bT (c:=true));rfl;rfl;(exact b5 (by omega))|(with_reducible apply bT (c:=false));rfl;rfl;(exact b8 (by omega)))
  ((refine bk rfl (aX rfl aM) ?_))
  first|exact ag.aU.refl _|exact ag.aU.of_eq (by rw[b5 q4];rfl)|exact ag.aU.of_eq (by rw[b8 q4];rfl)
def Gu(p1 p2 a1 a2 b1 b2:Int):Bool:=eE p1 p2&&eE a1 a2&&eE b1 b2&&cY (hM a1 b1) (hM a2 b2) (hL a1 b1) (hL a2 b2) p1 p2&&decide (cq a1 a2 b1 b2 p1 p2=0)
theorem ale{n:Int}:ta n=0↔n=0:=by unfold ta;repeat' split <;> omega
theorem aik{p1 p2 a1 a2 b1 b2:Int}{b:Bool}(aa:Gu p1 p2 a1 a2 b1 b2=b):aP ah 278 [bn p1 p2,bn a1 a2,bn b1 b2] (bl b):=by
 have bg:=uj (x:=p1) (y:=p2) rfl;have dS:=uj (x:=a1) (y:=a2) rfl;have lK:=uj (x:=b1) (y:=b2) rfl;have H1:=ahV (a1:=a1) (a2:=a2) (b1:=b1) (b2:=b2);have dM:=ah7 (l1:=hM a1 b1) (l2:=hM a2 b2) (h1:=hL a1 b1) (h2:=hL a2 b2) (p1:=p1) (p2:=p2) rfl;have r8:=aiq (o1:=a1) (o2:=a2) (a1:=b1) (a2:=b2) (b1:=p1) (b2:=p2);unfold Gu at aa
 have cs:(eE p1 p2=false∧b=false)∨(eE p1 p2=true∧eE a1 a2=false∧b=false)∨(eE p1 p2=true∧eE a1 a2=true∧eE b1 b2=false∧b=false)
   ∨ (eE p1 p2=true∧eE a1 a2=true∧eE b1 b2=true∧cY (hM a1 b1) (hM a2 b2) (hL a1 b1) (hL a2 b2) p1 p2=false∧b=false)
   ∨ (eE p1 p2=true∧eE a1 a2=true∧eE b1 b2=true∧cY (hM a1 b1) (hM a2 b2) (hL a1 b1) (hL a2 b2) p1 p2=true∧b=decide (ta (tz a1 a2 b1 b2 p1 p2)=0)):=by
  have e:decide (ta (tz a1 a2 b1 b2 p1 p2)=0)=decide (tz a1 a2 b1 b2 p1 p2=0):=by rw[o6,cU,cU,ale]
  rw[e];unfold tz;generalize cq a1 a2 b1 b2 p1 p2=c at *;generalize eE p1 p2=de at *;generalize eE a1 a2=dj at *;generalize eE b1 b2=ld at *;generalize cY _ _ _ _ p1 p2=nV at *;cases de <;> cases dj <;> cases ld <;> cases nV <;> simp_all
 clear aa;generalize cY _ _ _ _ p1 p2=nV at *;generalize hM a1 b1=i1 at *;generalize hM a2 b2=i2 at *;generalize hL a1 b1=i3 at *;generalize hL a2 b2=i4 at *;generalize ta (tz a1 a2 b1 b2 p1 p2)=t at *;rcases cs with ⟨h1,rfl⟩|⟨h1,h2,rfl⟩|⟨h1,h2,ar,rfl⟩|⟨h1,h2,ar,rfl,rfl⟩|⟨h1,h2,ar,rfl,rfl⟩ <;> simp only[*] at bg dS lK
 all_goals
  refine bp (f:=278) Tryz.func278 rfl rfl rfl rfl ?_;(refine cI ?_)
  ((refine bk rfl (aX rfl aM) ?_))
  exact ag.aU.refl _
end Go.Proofs.YtklpfooafbjnpaaGreat
namespace Go.Proofs.YtklpfooafbjnpaaGreat
def c6(x y:Int):Bool:=decide (x≤134217728)&&decide (y≤134217728)&&decide (-134217728≤x)&&decide (-134217728≤y)
theorem ux{x y:Int}:c6 x y=true↔(-134217728≤x∧x≤134217728) ∧ -134217728≤y∧y≤134217728:=by
  unfold c6;simp only[ef,cU];omega
def dP(a1 a2 b1 b2:Int):Prop:=a1<b1∨(a1=b1∧a2≤b2)
instance (a1 a2 b1 b2:Int):Decidable (dP a1 a2 b1 b2):=by unfold dP;exact inferInstance
theorem dP.L3{a1 a2:Int}:dP a1 a2 a1 a2 := .inr ⟨rfl,o5 _⟩
theorem dP.trans{a1 a2 b1 b2 c1 c2:Int}(h:dP a1 a2 b1 b2)(k:dP b1 b2 c1 c2):dP a1 a2 c1 c2:=by unfold dP at *;omega
theorem dP.total(a1 a2 b1 b2:Int):dP a1 a2 b1 b2∨dP b1 b2 a1 a2:=by unfold dP;omega
theorem dP.Eb{a1 a2 b1 b2:Int}(h:dP a1 a2 b1 b2)(k:dP b1 b2 a1 a2):a1=b1∧a2=b2:=by unfold dP at *;omega
def tX(p1 p2 a1 a2 b1 b2:Int):Prop:=hM a1 b1≤p1∧p1≤hL a1 b1∧hM a2 b2≤p2∧p2≤hL a2 b2
theorem Ol{s1 s2 t1 t2 p1 p2:Int}(gi:dP s1 s2 t1 t2)(ak:cq s1 s2 t1 t2 p1 p2=0):tX p1 p2 s1 s2 t1 t2↔dP s1 s2 p1 p2∧dP p1 p2 t1 t2:=by
  unfold cq at ak;have ny:(t1-s1)*(p2-s2)=(t2-s2)*(p1-s1):=by omega
  unfold tX hM hL dP at *
  by_cases h1:s1=t1
  · subst h1
    have e:(t2-s2)*(p1-s1)=0:=by rw[←ny];simp
    rcases uu.1 e with e|e
    · constructor
      · intro h;split at h <;> (try split at h) <;> (try split at h) <;> (try split at h) <;> omega
      · intro h;split <;> (try split) <;> (try split) <;> (try split) <;> omega
    · constructor
      · intro h;split at h <;> (try split at h) <;> (try split at h) <;> (try split at h) <;> omega
      · intro h;split <;> (try split) <;> (try split) <;> (try split) <;> omega
  · have h2:s1<t1:=by omega
    have hd:0<t1-s1:=by omega
    rw[if_neg (show ¬t1<s1 by omega),if_pos (show t1>s1 by omega)]
   
    have key:s1≤p1→p1≤t1→(if t2<s2 then t2 else s2)≤p2∧p2≤(if t2>s2 then t2 else s2):=by
      intro bD cp
      by_cases g:t2<s2
      · rw[if_pos g,if_neg (by omega)]
        have a1:(t2-s2)*(t1-s1)≤(t2-s2)*(p1-s1):=Int.mul_le_mul_of_nonpos_left (by omega) (by omega);have a2:(t2-s2)*(p1-s1)≤0:=Int.mul_nonpos_of_nonpos_of_nonneg (by omega) (by omega);rw[←ny] at a1 a2;rw[k6 (t2-s2)] at a1;have b1:=Int.le_of_mul_le_mul_left a1 hd
        have b2:p2-s2≤0:=by
          have:(t1-s1)*(p2-s2)≤(t1-s1)*0:=by omega
          exact Int.le_of_mul_le_mul_left this hd
        omega
      · rw[if_neg g]
        have a1:(t2-s2)*(p1-s1)≤(t2-s2)*(t1-s1):=s0 (by omega) (by omega);have a2:0≤(t2-s2)*(p1-s1):=hR (by omega) (by omega);rw[←ny] at a1 a2;rw[k6 (t2-s2)] at a1;have b1:=Int.le_of_mul_le_mul_left a1 hd
        have b2:0≤p2-s2:=by
          have:(t1-s1)*0≤(t1-s1)*(p2-s2):=by omega
          exact Int.le_of_mul_le_mul_left this hd
        split <;> omega
    constructor
    · rintro⟨bD,cp,jE,lA⟩
      constructor
      · by_cases g:s1<p1
        · exact .inl g
        · right
          have:p1=s1:=by omega
          subst this;have:(t1-p1)*(p2-s2)=0:=by rw[ny];simp
          rcases uu.1 this with e|e <;> omega
      · by_cases g:p1<t1
        · exact .inl g
        · right
          have:p1=t1:=by omega
          subst this;rw[k6 (t2-s2)] at ny;have:=Int.eq_of_mul_eq_mul_left (show p1-s1≠0 by omega) ny;omega
    · rintro⟨bD,cp⟩
      have KO:s1≤p1:=by omega
      have KP:p1≤t1:=by omega
      exact⟨KO,KP,(key KO KP).1,(key KO KP).2⟩
def dN(p1 p2 s1 s2 t1 t2:Int):Prop:=cq s1 s2 t1 t2 p1 p2=0∧tX p1 p2 s1 s2 t1 t2
theorem xz{s1 s2 t1 t2 p1 p2:Int}(gi:dP s1 s2 t1 t2):dN p1 p2 s1 s2 t1 t2↔cq s1 s2 t1 t2 p1 p2=0∧dP s1 s2 p1 p2∧dP p1 p2 t1 t2:=by
  unfold dN
  constructor
  · rintro⟨h,k⟩;exact⟨h,(Ol gi h).1 k⟩
  · rintro⟨h,k⟩;exact⟨h,(Ol gi h).2 k⟩
theorem IE(a1 a2 b1 b2:Int):cq a1 a2 b1 b2 a1 a2=0:=by unfold cq;grind
theorem OO(a1 a2 b1 b2:Int):cq a1 a2 b1 b2 b1 b2=0:=by unfold cq;grind
theorem vB{s1 s2 t1 t2:Int}(gi:dP s1 s2 t1 t2):dN s1 s2 s1 s2 t1 t2:=(xz gi).2 ⟨IE ..,.L3,gi⟩
theorem vA{s1 s2 t1 t2:Int}(gi:dP s1 s2 t1 t2):dN t1 t2 s1 s2 t1 t2:=(xz gi).2 ⟨OO ..,gi,.L3⟩
theorem CD{p1 p2 s1 s2:Int}(h:dN p1 p2 s1 s2 s1 s2):p1=s1∧p2=s2:=by
  obtain⟨_,h1,h2⟩:=(xz dP.L3).1 h;have:=dP.Eb h1 h2;omega
def qu(s1 s2 bW b9 t1 t2 t3 t4:Int):Int:=(bW-s1)*(t4-t2)-(b9-s2)*(t3-t1)
theorem vD{s1 s2 bW b9 t1 t2 t3 t4 p1 p2 cf dH:Int}(hs:dP s1 s2 bW b9)(aC:dP t1 t2 t3 t4)(hw:qu s1 s2 bW b9 t1 t2 t3 t4=0)
    (ps:dN p1 p2 s1 s2 bW b9) (qw:dN p1 p2 t1 t2 t3 t4) (rL:dN cf dH s1 s2 bW b9) (hB:dP t1 t2 cf dH) (ajT:dP cf dH t3 t4):dN cf dH t1 t2 t3 t4:=by
  by_cases hd:s1=bW∧s2=b9
  · obtain⟨rfl,rfl⟩:=hd
    obtain⟨rfl,rfl⟩:=CD ps;obtain⟨rfl,rfl⟩:=CD rL;exact qw
  · refine(xz aC).2 ⟨?_,hB,ajT⟩
    have a:=ps.1;have b:=qw.1;have c:=rL.1;unfold cq qu at *;have d1:(bW-s1)*((t3-t1)*(dH-t2)-(t4-t2)*(cf-t1))=0:=by grind
    have d2:(b9-s2)*((t3-t1)*(dH-t2)-(t4-t2)*(cf-t1))=0:=by grind
    rcases uu.1 d1 with e|e
    · rcases uu.1 d2 with f|f
      · omega
      · exact f
    · exact e
theorem Om{x y A B D:Int}(e3:0<D)(e:D=A-B):(hM x y*D≤y*A-x*B∧y*A-x*B≤hL x y*D)↔(x=y∨(B≤0∧0≤A)):=by
  subst e;unfold hM hL
  by_cases h:x=y
  · subst h
    have:x*(A-B)=x*A-x*B:=Int.mul_sub ..;simp[this]
  · have pos:∀ {u v:Int},0<u→(0≤u*v↔0≤v):=by
      intro u v hu
      constructor
      · intro k
        have k':u*0≤u*v:=by omega
        exact Int.le_of_mul_le_mul_left k' hu
      · intro k;exact hR (by omega) k
    by_cases g:x<y
    · rw[if_neg (by omega),if_pos (show y>x from g)]
      have hu:0<y-x:=by omega
      have aH:y*A-x*B-x*(A-B)=(y-x)*A:=by grind
      have aN:y*(A-B)-(y*A-x*B)=(y-x)*(-B):=by grind
      have p1:=pos (v:=A) hu;have p2:=pos (v := -B) hu;omega
    · rw[if_pos (by omega),if_neg (by omega)]
      have hu:0<x-y:=by omega
      have aH:x*(A-B)-(y*A-x*B)=(x-y)*A:=by grind
      have aN:y*A-x*B-y*(A-B)=(x-y)*(-B):=by grind
      have p1:=pos (v:=A) hu;have p2:=pos (v := -B) hu;omega
def l9(n d a b:Int):Prop:=hM a b*d≤n∧n≤hL a b*d
theorem Eo{x y u v A B D:Int}(e3:0<D)(e:D=A-B)(cA:¬(x=y∧u=v)):(l9 (y*A-x*B) D x y∧l9 (v*A-u*B) D u v)↔(B≤0∧0≤A):=by
  unfold l9;rw[Om e3 e,Om e3 e];omega
theorem tv{n d a b:Int}:l9 n d a b↔l9 n d b a:=by
  unfold l9 hM hL
  by_cases h:a=b
  · subst h;rfl
  · by_cases g:a<b
    · rw[if_neg (by omega),if_pos (show b>a from g),if_pos g,if_neg (by omega)]
    · rw[if_pos (show b<a by omega),if_neg (by omega),if_neg g,if_pos (by omega)]
structure fW where
  k:Int
  n:Int
  d:Int
  m:Int
  e:Int
  p1:Int
  p2:Int
  q1:Int
  q2:Int
def iV:fW:=⟨0,0,0,0,0,0,0,0,0⟩
def kf(n d m e:Int):fW:=⟨1,n,d,m,e,0,0,0,0⟩
def uR(p1 p2 q1 q2:Int):fW:=⟨2,0,0,0,0,p1,p2,q1,q2⟩
def kE(n d:Int):Int:=if d<0 then -n else n
def jI(d:Int):Int:=if d<0 then -d else d
theorem sO{d:Int}(h:d≠0)(n:Int):kE (-n) (-d)=kE n d:=by unfold kE;split <;> split <;> omega
theorem CA(d:Int):jI (-d)=jI d:=by unfold jI;split <;> split <;> omega
theorem SS{d:Int}(h:d≠0):0<jI d:=by unfold jI;split <;> omega
def k2(a1 a2 b1 b2 c1 c2 d1 d2:Int):Int:=((b2-a2)*a1+(a1-b1)*a2)*(c1-d1)-(a1-b1)*((d2-c2)*c1+(c1-d1)*c2)
def k3(a1 a2 b1 b2 c1 c2 d1 d2:Int):Int:=(b2-a2)*((d2-c2)*c1+(c1-d1)*c2)-((b2-a2)*a1+(a1-b1)*a2)*(d2-c2)
def dt(a1 a2 b1 b2 c1 c2 d1 d2:Int):Int:=(b2-a2)*(c1-d1)-(a1-b1)*(d2-c2)
theorem We(a1 a2 b1 b2 c1 c2 d1 d2:Int):dt a1 a2 b1 b2 c1 c2 d1 d2=qu a1 a2 b1 b2 c1 c2 d1 d2:=by unfold dt qu;grind
section
variable(a1 a2 b1 b2 c1 c2 d1 d2:Int)
theorem Hr:dt b1 b2 a1 a2 c1 c2 d1 d2 = - dt a1 a2 b1 b2 c1 c2 d1 d2:=by unfold dt;grind
theorem Dk:dt a1 a2 b1 b2 d1 d2 c1 c2 = - dt a1 a2 b1 b2 c1 c2 d1 d2:=by unfold dt;grind
theorem Hs:dt c1 c2 d1 d2 a1 a2 b1 b2 = - dt a1 a2 b1 b2 c1 c2 d1 d2:=by unfold dt;grind
theorem ag5:k2 b1 b2 a1 a2 c1 c2 d1 d2 = - k2 a1 a2 b1 b2 c1 c2 d1 d2:=by unfold k2;grind
theorem ag6:k2 a1 a2 b1 b2 d1 d2 c1 c2 = - k2 a1 a2 b1 b2 c1 c2 d1 d2:=by unfold k2;grind
theorem SE:k2 c1 c2 d1 d2 a1 a2 b1 b2 = - k2 a1 a2 b1 b2 c1 c2 d1 d2:=by unfold k2;grind
theorem ag7:k3 b1 b2 a1 a2 c1 c2 d1 d2 = - k3 a1 a2 b1 b2 c1 c2 d1 d2:=by unfold k3;grind
theorem ag8:k3 a1 a2 b1 b2 d1 d2 c1 c2 = - k3 a1 a2 b1 b2 c1 c2 d1 d2:=by unfold k3;grind
theorem SF:k3 c1 c2 d1 d2 a1 a2 b1 b2 = - k3 a1 a2 b1 b2 c1 c2 d1 d2:=by unfold k3;grind
theorem Lo:c1*cq a1 a2 b1 b2 d1 d2-d1*cq a1 a2 b1 b2 c1 c2=k2 a1 a2 b1 b2 c1 c2 d1 d2:=by unfold k2 cq;grind
theorem Lp:c2*cq a1 a2 b1 b2 d1 d2-d2*cq a1 a2 b1 b2 c1 c2=k3 a1 a2 b1 b2 c1 c2 d1 d2:=by unfold k3 cq;grind
theorem MS:cq a1 a2 b1 b2 d1 d2-cq a1 a2 b1 b2 c1 c2=dt a1 a2 b1 b2 c1 c2 d1 d2:=by unfold dt cq;grind
end
def four(a1 a2 b1 b2 c1 c2 d1 d2 x y d:Int):Prop:=l9 x d a1 b1∧l9 y d a2 b2∧l9 x d c1 d1∧l9 y d c2 d2
instance (n d a b:Int):Decidable (l9 n d a b):=by unfold l9;exact inferInstance
instance (a1 a2 b1 b2 c1 c2 d1 d2 x y d:Int):Decidable (four a1 a2 b1 b2 c1 c2 d1 d2 x y d):=by unfold four;exact inferInstance
theorem Cd{α:Type}{p q:Prop} [Decidable p] [Decidable q]{a b:α}(h:p↔q):(if p then a else b)=if q then a else b:=by
  by_cases k:p
  · rw[if_pos k,if_pos (h.1 k)]
  · rw[if_neg k,if_neg fun g=>k (h.2 g)]
def vw(a1 a2 b1 b2 c1 c2 d1 d2 x y d:Int):fW:=if four a1 a2 b1 b2 c1 c2 d1 d2 x y d then kf x d y d else iV
def ow(a1 a2 b1 b2 c1 c2 d1 d2:Int):fW :=
  vw a1 a2 b1 b2 c1 c2 d1 d2 (kE (k2 a1 a2 b1 b2 c1 c2 d1 d2) (dt a1 a2 b1 b2 c1 c2 d1 d2)) (kE (k3 a1 a2 b1 b2 c1 c2 d1 d2) (dt a1 a2 b1 b2 c1 c2 d1 d2)) (jI (dt a1 a2 b1 b2 c1 c2 d1 d2))
theorem agA{a1 a2 b1 b2 c1 c2 d1 d2:Int}(h:dt a1 a2 b1 b2 c1 c2 d1 d2≠0):ow b1 b2 a1 a2 c1 c2 d1 d2=ow a1 a2 b1 b2 c1 c2 d1 d2:=by
  unfold ow;rw[Hr,ag5,ag7,sO h,sO h,CA];unfold vw four;exact Cd (by rw[tv (a:=b1),tv (a:=b2)])
theorem agB{a1 a2 b1 b2 c1 c2 d1 d2:Int}(h:dt a1 a2 b1 b2 c1 c2 d1 d2≠0):ow a1 a2 b1 b2 d1 d2 c1 c2=ow a1 a2 b1 b2 c1 c2 d1 d2:=by
  unfold ow;rw[Dk,ag6,ag8,sO h,sO h,CA];unfold vw four;exact Cd (by rw[tv (a:=d1),tv (a:=d2)])
theorem agC{a1 a2 b1 b2 c1 c2 d1 d2:Int}(h:dt a1 a2 b1 b2 c1 c2 d1 d2≠0):ow c1 c2 d1 d2 a1 a2 b1 b2=ow a1 a2 b1 b2 c1 c2 d1 d2:=by
  unfold ow;rw[Hs,SE,SF,sO h,sO h,CA];unfold vw four;refine Cd ?_
  constructor
  · rintro⟨h1,h2,ar,aJ⟩;exact⟨ar,aJ,h1,h2⟩
  · rintro⟨h1,h2,ar,aJ⟩;exact⟨ar,aJ,h1,h2⟩
def same(m n:Int):Prop:=(0<m∧0<n)∨(m<0∧n<0)
instance (m n:Int):Decidable (same m n):=by unfold same;exact inferInstance
theorem Wd{a1 a2 b1 b2 c1 c2 d1 d2:Int}(h:dt a1 a2 b1 b2 c1 c2 d1 d2≠0):¬(a1=b1∧a2=b2)∧¬(c1=d1∧c2=d2):=by
  refine⟨?_,?_⟩
  · rintro⟨rfl,rfl⟩;apply h;unfold dt;simp
  · rintro⟨rfl,rfl⟩;apply h;unfold dt;simp
theorem VA{a1 a2 b1 b2 c1 c2 d1 d2:Int}(h:dt a1 a2 b1 b2 c1 c2 d1 d2≠0) :
    (l9 (kE (k2 a1 a2 b1 b2 c1 c2 d1 d2) (dt a1 a2 b1 b2 c1 c2 d1 d2)) (jI (dt a1 a2 b1 b2 c1 c2 d1 d2)) c1 d1∧l9 (kE (k3 a1 a2 b1 b2 c1 c2 d1 d2) (dt a1 a2 b1 b2 c1 c2 d1 d2)) (jI (dt a1 a2 b1 b2 c1 c2 d1 d2)) c2 d2)↔¬same (cq a1 a2 b1 b2 c1 c2) (cq a1 a2 b1 b2 d1 d2):=by
  have cA:=(Wd h).2;have aH:=Lo a1 a2 b1 b2 c1 c2 d1 d2;have aN:=Lp a1 a2 b1 b2 c1 c2 d1 d2;have ck:=MS a1 a2 b1 b2 c1 c2 d1 d2;generalize k2 a1 a2 b1 b2 c1 c2 d1 d2=X at *;generalize k3 a1 a2 b1 b2 c1 c2 d1 d2=Y at *;generalize dt a1 a2 b1 b2 c1 c2 d1 d2=w at *;generalize cq a1 a2 b1 b2 c1 c2=C at *;generalize cq a1 a2 b1 b2 d1 d2=D at *;unfold kE jI same
  by_cases g:w<0
  · rw[if_pos g,if_pos g,if_pos g,tv (a:=c1),tv (a:=c2)]
    have aZ:=Eo (x:=d1) (y:=c1) (u:=d2) (v:=c2) (A := -D) (B := -C) (D := -w) (by omega) (by omega) (by omega);have f1:c1 * -D-d1 * -C = -X:=by rw[←aH];simp only[Int.mul_neg];omega
    have f2:c2 * -D-d2 * -C = -Y:=by rw[←aN];simp only[Int.mul_neg];omega
    rw[f1,f2] at aZ;rw[aZ];omega
  · rw[if_neg g,if_neg g,if_neg g,tv (a:=c1),tv (a:=c2)]
    have aZ:=Eo (x:=d1) (y:=c1) (u:=d2) (v:=c2) (A:=D) (B:=C) (D:=w) (by omega) (by omega) (by omega);rw[aH,aN] at aZ;rw[aZ];omega
theorem alo{a1 a2 b1 b2 c1 c2 d1 d2:Int}(h:dt a1 a2 b1 b2 c1 c2 d1 d2≠0) :
    (l9 (kE (k2 a1 a2 b1 b2 c1 c2 d1 d2) (dt a1 a2 b1 b2 c1 c2 d1 d2)) (jI (dt a1 a2 b1 b2 c1 c2 d1 d2)) a1 b1∧l9 (kE (k3 a1 a2 b1 b2 c1 c2 d1 d2) (dt a1 a2 b1 b2 c1 c2 d1 d2)) (jI (dt a1 a2 b1 b2 c1 c2 d1 d2)) a2 b2)↔¬same (cq c1 c2 d1 d2 a1 a2) (cq c1 c2 d1 d2 b1 b2):=by
  have aK:dt c1 c2 d1 d2 a1 a2 b1 b2≠0:=by rw[Hs];omega
  have:=VA aK;rw[SE,SF,Hs,sO h,sO h,CA] at this;exact this
theorem abf{a1 a2 b1 b2 c1 c2 d1 d2:Int}(h:dt a1 a2 b1 b2 c1 c2 d1 d2≠0) :
    four a1 a2 b1 b2 c1 c2 d1 d2 (kE (k2 a1 a2 b1 b2 c1 c2 d1 d2) (dt a1 a2 b1 b2 c1 c2 d1 d2)) (kE (k3 a1 a2 b1 b2 c1 c2 d1 d2) (dt a1 a2 b1 b2 c1 c2 d1 d2)) (jI (dt a1 a2 b1 b2 c1 c2 d1 d2))↔¬(same (cq a1 a2 b1 b2 c1 c2) (cq a1 a2 b1 b2 d1 d2)∨same (cq c1 c2 d1 d2 a1 a2) (cq c1 c2 d1 d2 b1 b2)):=by
  unfold four;have p:=VA h;have q:=alo h
  constructor
  · rintro⟨h1,h2,ar,aJ⟩ (g|g)
    · exact p.1 ⟨ar,aJ⟩ g
    · exact q.1 ⟨h1,h2⟩ g
  · intro g
    obtain⟨ar,aJ⟩:=p.2 fun k=>g (.inl k);obtain⟨h1,h2⟩:=q.2 fun k=>g (.inr k);exact⟨h1,h2,ar,aJ⟩
def eX(a1 a2 b1 b2:Int):Int:=if dP a1 a2 b1 b2 then a1 else b1
def eG(a1 a2 b1 b2:Int):Int:=if dP a1 a2 b1 b2 then a2 else b2
def en(a1 a2 b1 b2:Int):Int:=if dP a1 a2 b1 b2 then b1 else a1
def eh(a1 a2 b1 b2:Int):Int:=if dP a1 a2 b1 b2 then b2 else a2
theorem oS(a1 a2 b1 b2:Int):(eX a1 a2 b1 b2=a1∧eG a1 a2 b1 b2=a2∧en a1 a2 b1 b2=b1∧eh a1 a2 b1 b2=b2∧dP a1 a2 b1 b2)∨(eX a1 a2 b1 b2=b1∧eG a1 a2 b1 b2=b2∧en a1 a2 b1 b2=a1∧eh a1 a2 b1 b2=a2∧dP b1 b2 a1 a2):=by
  unfold eX eG en eh
  by_cases h:dP a1 a2 b1 b2
  · simp[h]
  · simp[h,(dP.total a1 a2 b1 b2).resolve_left h]
theorem y7(a1 a2 b1 b2:Int):dP (eX a1 a2 b1 b2) (eG a1 a2 b1 b2) (en a1 a2 b1 b2) (eh a1 a2 b1 b2):=by
  rcases oS a1 a2 b1 b2 with ⟨h1,h2,ar,aJ,h⟩|⟨h1,h2,ar,aJ,h⟩ <;> rw[h1,h2,ar,aJ] <;> exact h
theorem R6(a1 a2 b1 b2:Int):eX b1 b2 a1 a2=eX a1 a2 b1 b2∧eG b1 b2 a1 a2=eG a1 a2 b1 b2∧en b1 b2 a1 a2=en a1 a2 b1 b2∧eh b1 b2 a1 a2=eh a1 a2 b1 b2:=by
  rcases oS a1 a2 b1 b2 with ⟨h1,h2,ar,aJ,h⟩|⟨h1,h2,ar,aJ,h⟩ <;> rcases oS b1 b2 a1 a2 with ⟨bD,cp,jE,lA,k⟩|⟨bD,cp,jE,lA,k⟩ <;> rw[h1,h2,ar,aJ,bD,cp,jE,lA] <;> (try have:=dP.Eb h k) <;> simp_all
theorem CC{p1 p2 a1 a2 b1 b2:Int}:dN p1 p2 b1 b2 a1 a2↔dN p1 p2 a1 a2 b1 b2:=by
  unfold dN tX;have e:cq b1 b2 a1 a2 p1 p2 = - cq a1 a2 b1 b2 p1 p2:=by unfold cq;grind
  have m:∀x y:Int,hM x y=hM y x:=fun x y=>by unfold hM;split <;> split <;> omega
  have n:∀x y:Int,hL x y=hL y x:=fun x y=>by unfold hL;split <;> split <;> omega
  rw[e,m a1,m a2,n a1,n a2]
  constructor <;> rintro⟨h,k⟩ <;> exact⟨by omega,k⟩
instance (p1 p2 a1 a2 b1 b2:Int):Decidable (tX p1 p2 a1 a2 b1 b2):=by unfold tX;exact inferInstance
instance (p1 p2 a1 a2 b1 b2:Int):Decidable (dN p1 p2 a1 a2 b1 b2):=by unfold dN;exact inferInstance
theorem CE{p1 p2 a1 a2 b1 b2:Int}:dN p1 p2 (eX a1 a2 b1 b2) (eG a1 a2 b1 b2) (en a1 a2 b1 b2) (eh a1 a2 b1 b2)↔dN p1 p2 a1 a2 b1 b2:=by
  rcases oS a1 a2 b1 b2 with ⟨h1,h2,ar,aJ,h⟩|⟨h1,h2,ar,aJ,h⟩ <;> rw[h1,h2,ar,aJ];exact CC
theorem ajq{s1 s2 bW b9 t1 t2 t3 t4:Int}:qu t1 t2 t3 t4 s1 s2 bW b9 = - qu s1 s2 bW b9 t1 t2 t3 t4:=by unfold qu;grind
theorem R7{s1 s2 bW b9 t1 t2 t3 t4 p1 p2:Int}(hs:dP s1 s2 bW b9)(aC:dP t1 t2 t3 t4)(hw:qu s1 s2 bW b9 t1 t2 t3 t4=0)(ps:dN p1 p2 s1 s2 bW b9)(qw:dN p1 p2 t1 t2 t3 t4) :
    dN (en s1 s2 t1 t2) (eh s1 s2 t1 t2) s1 s2 bW b9∧dN (en s1 s2 t1 t2) (eh s1 s2 t1 t2) t1 t2 t3 t4∧dN (eX bW b9 t3 t4) (eG bW b9 t3 t4) s1 s2 bW b9∧dN (eX bW b9 t3 t4) (eG bW b9 t3 t4) t1 t2 t3 t4
    ∧ dP (en s1 s2 t1 t2) (eh s1 s2 t1 t2) p1 p2∧dP p1 p2 (eX bW b9 t3 t4) (eG bW b9 t3 t4):=by
  obtain⟨_,eH,zJ⟩:=(xz hs).1 ps;obtain⟨_,t0,t9⟩:=(xz aC).1 qw;have nE:qu t1 t2 t3 t4 s1 s2 bW b9=0:=by rw[ajq];omega
  rcases oS s1 s2 t1 t2 with ⟨_,_,ar,aJ,h⟩|⟨_,_,ar,aJ,h⟩ <;> rcases oS bW b9 t3 t4 with ⟨bD,cp,_,_,k⟩|⟨bD,cp,_,_,k⟩ <;> rw[ar,aJ,bD,cp]
  · exact⟨vD aC hs nE qw ps (vB aC) h (t0.trans zJ),vB aC,vA hs,vD hs aC hw ps qw (vA hs) (t0.trans zJ) k,t0,zJ⟩
  · exact⟨vD aC hs nE qw ps (vB aC) h (t0.trans zJ),vB aC,vD aC hs nE qw ps (vA aC) (eH.trans t9) k,vA aC,t0,t9⟩
  · exact⟨vB hs,vD hs aC hw ps qw (vB hs) h (eH.trans t9),vA hs,vD hs aC hw ps qw (vA hs) (t0.trans zJ) k,eH,zJ⟩
  · exact⟨vB hs,vD hs aC hw ps qw (vB hs) h (eH.trans t9),vD aC hs nE qw ps (vA aC) (eH.trans t9) k,vA aC,eH,t9⟩
def xj(f1 f2 g1 g2:Int):fW:=if f1=g1∧f2=g2 then kf f1 1 f2 1 else uR f1 f2 g1 g2
def inl(s1 s2 bW b9 t1 t2 t3 t4:Int):fW :=
  if dN (en s1 s2 t1 t2) (eh s1 s2 t1 t2) s1 s2 bW b9∧dN (en s1 s2 t1 t2) (eh s1 s2 t1 t2) t1 t2 t3 t4 then xj (en s1 s2 t1 t2) (eh s1 s2 t1 t2) (eX bW b9 t3 t4) (eG bW b9 t3 t4) else iV
def xk(a1 a2 b1 b2 c1 c2 d1 d2:Int):fW:=inl (eX a1 a2 b1 b2) (eG a1 a2 b1 b2) (en a1 a2 b1 b2) (eh a1 a2 b1 b2) (eX c1 c2 d1 d2) (eG c1 c2 d1 d2) (en c1 c2 d1 d2) (eh c1 c2 d1 d2)
def jt(a1 a2 b1 b2 c1 c2 d1 d2:Int):fW:=if dt a1 a2 b1 b2 c1 c2 d1 d2=0 then xk a1 a2 b1 b2 c1 c2 d1 d2 else ow a1 a2 b1 b2 c1 c2 d1 d2
theorem Sl(a1 a2 b1 b2 c1 c2 d1 d2:Int):jt b1 b2 a1 a2 c1 c2 d1 d2=jt a1 a2 b1 b2 c1 c2 d1 d2:=by
  unfold jt;obtain⟨h1,h2,ar,aJ⟩:=R6 a1 a2 b1 b2
  by_cases h:dt a1 a2 b1 b2 c1 c2 d1 d2=0
  · rw[if_pos (by rw[Hr];omega),if_pos h];unfold xk;rw[h1,h2,ar,aJ]
  · rw[if_neg (by rw[Hr];omega),if_neg h,agA h]
theorem Sm(a1 a2 b1 b2 c1 c2 d1 d2:Int):jt a1 a2 b1 b2 d1 d2 c1 c2=jt a1 a2 b1 b2 c1 c2 d1 d2:=by
  unfold jt;obtain⟨h1,h2,ar,aJ⟩:=R6 c1 c2 d1 d2
  by_cases h:dt a1 a2 b1 b2 c1 c2 d1 d2=0
  · rw[if_pos (by rw[Dk];omega),if_pos h];unfold xk;rw[h1,h2,ar,aJ]
  · rw[if_neg (by rw[Dk];omega),if_neg h,agB h]
theorem agE(a1 a2 b1 b2 c1 c2 d1 d2:Int):jt (eX a1 a2 b1 b2) (eG a1 a2 b1 b2) (en a1 a2 b1 b2) (eh a1 a2 b1 b2) (eX c1 c2 d1 d2) (eG c1 c2 d1 d2) (en c1 c2 d1 d2) (eh c1 c2 d1 d2)=jt a1 a2 b1 b2 c1 c2 d1 d2:=by
  rcases oS a1 a2 b1 b2 with ⟨h1,h2,ar,aJ,_⟩|⟨h1,h2,ar,aJ,_⟩ <;> rcases oS c1 c2 d1 d2 with ⟨bD,cp,jE,lA,_⟩|⟨bD,cp,jE,lA,_⟩ <;> rw[h1,h2,ar,aJ,bD,cp,jE,lA]
  · rw[Sm]
  · rw[Sl]
  · rw[Sl,Sm]
def La(s1 s2 bW b9 t1 t2 t3 t4 A B C D:Int):fW :=
  if A=B then inl s1 s2 bW b9 t1 t2 t3 t4
  else if same A B∨same C D then iV
  else kf (kE (t3*A-t1*B) (A-B)) (jI (A-B)) (kE (t4*A-t2*B) (A-B)) (jI (A-B))
theorem Sg{s1 s2 bW b9:Int}(h:dP s1 s2 bW b9):eX s1 s2 bW b9=s1∧eG s1 s2 bW b9=s2∧en s1 s2 bW b9=bW∧eh s1 s2 bW b9=b9:=by
  unfold eX eG en eh;simp[h]
theorem agD{s1 s2 bW b9 t1 t2 t3 t4:Int}(hs:dP s1 s2 bW b9)(aC:dP t1 t2 t3 t4) :
    La s1 s2 bW b9 t1 t2 t3 t4 (cq s1 s2 bW b9 t1 t2) (cq s1 s2 bW b9 t3 t4) (cq t1 t2 t3 t4 s1 s2) (cq t1 t2 t3 t4 bW b9)=jt s1 s2 bW b9 t1 t2 t3 t4:=by
  have aH:=Lo s1 s2 bW b9 t1 t2 t3 t4;have aN:=Lp s1 s2 bW b9 t1 t2 t3 t4;have ck:=MS s1 s2 bW b9 t1 t2 t3 t4;unfold La jt
  by_cases h:dt s1 s2 bW b9 t1 t2 t3 t4=0
  · rw[if_pos (by omega),if_pos h]
    unfold xk;obtain⟨h1,h2,ar,aJ⟩:=Sg hs;obtain⟨bD,cp,jE,lA⟩:=Sg aC;rw[h1,h2,ar,aJ,bD,cp,jE,lA]
  · rw[if_neg (by omega),if_neg h]
    have f:=abf h;have g1:t3*cq s1 s2 bW b9 t1 t2-t1*cq s1 s2 bW b9 t3 t4 = - k2 s1 s2 bW b9 t1 t2 t3 t4:=by omega
    have g2:t4*cq s1 s2 bW b9 t1 t2-t2*cq s1 s2 bW b9 t3 t4 = - k3 s1 s2 bW b9 t1 t2 t3 t4:=by omega
    have g3:cq s1 s2 bW b9 t1 t2-cq s1 s2 bW b9 t3 t4 = - dt s1 s2 bW b9 t1 t2 t3 t4:=by omega
    rw[g1,g2,g3,sO h,sO h,CA];unfold ow vw
    by_cases q:same (cq s1 s2 bW b9 t1 t2) (cq s1 s2 bW b9 t3 t4)∨same (cq t1 t2 t3 t4 s1 s2) (cq t1 t2 t3 t4 bW b9)
    · rw[if_pos q,if_neg fun k=>f.1 k q]
    · rw[if_neg q,if_pos (f.2 q)]
structure iJ where
 n:Int
 d:Int
 own:Bool
structure Pa where
 f:iJ
 t:iJ
def iu(x y:iJ):Int:=fm (x.n*y.d) (y.n*x.d)
def sH(x y:iJ):iJ:=if 0<iu x y∨(iu x y=0∧y.own=true) then x else y
def sk(x y:iJ):iJ:=if iu x y<0∨(iu x y=0∧y.own=true) then x else y
def py(p:Pa)(u v:Int)(own:Bool):Pa :=
 if 0<v-u then ⟨sH p.f ⟨-u,v-u,own⟩,p.t⟩
 else if v-u<0 then ⟨p.f,sk p.t ⟨u,-(v-u),own⟩⟩
 else if u<0∨(u=0∧own=false) then ⟨⟨1,1,false⟩,⟨0,1,false⟩⟩ else p
def yo(p:Pa):Bool:=decide (iu p.f p.t<0)||(decide (iu p.f p.t=0)&&p.f.own&&p.t.own)
def wz:Pa:=⟨⟨0,1,true⟩,⟨1,1,true⟩⟩
theorem aeH(x y:Int):fm x y<0↔x<y:=by unfold fm;split <;> (try split) <;> omega
theorem aeG(x y:Int):0<fm x y↔y<x:=by unfold fm;split <;> (try split) <;> omega
theorem aeF(x y:Int):fm x y=0↔x=y:=by unfold fm;split <;> (try split) <;> omega
def rY(x:iJ)(n d:Int):Prop:=x.n*d<n*x.d∨(x.own=true∧x.n*d=n*x.d)
def rZ(y:iJ)(n d:Int):Prop:=n*y.d<y.n*d∨(y.own=true∧n*y.d=y.n*d)
def qL(p:Pa)(n d:Int):Prop:=rY p.f n d∧rZ p.t n d
theorem qm{a b c:Int}(h:a<b)(ak:0<c):a*c<b*c:=Int.mul_lt_mul_of_pos_right h ak
theorem lt_mul{a b c:Int}(h:a*c<b*c)(ak:0<c):a<b:=Int.lt_of_mul_lt_mul_right h (by omega)
theorem eq_mul{a b c:Int}(h:a*c=b*c)(ak:0<c):a=b:=Int.eq_of_mul_eq_mul_right (by omega) h
theorem wU{a b c d e f:Int}(aa:0<b)(hd:0<d)(au:0<f)(h:a*d<c*b)(k:c*f<e*d):a*f<e*b:=by
 have h1:=qm h au;have h2:=qm k aa;refine lt_mul (c:=d) ?_ hd;have aH:a*d*f=a*f*d:=by grind
 have aN:c*b*f=c*f*b:=by grind
 have ck:e*d*b=e*b*d:=by grind
 omega
theorem yB{a b c d e f:Int}(aa:0<b)(hd:0<d)(au:0<f)(h:a*d=c*b)(k:c*f<e*d):a*f<e*b:=by
 have h2:=qm k aa;refine lt_mul (c:=d) ?_ hd;have aH:a*d*f=a*f*d:=by grind
 have aN:c*b*f=c*f*b:=by grind
 have ck:e*d*b=e*b*d:=by grind
 have h1:a*d*f=c*b*f:=by rw[h]
 omega
theorem yC{a b c d e f:Int}(aa:0<b)(hd:0<d)(au:0<f)(h:a*d<c*b)(k:c*f=e*d):a*f<e*b:=by
 have h1:=qm h au;refine lt_mul (c:=d) ?_ hd;have aH:a*d*f=a*f*d:=by grind
 have aN:c*b*f=c*f*b:=by grind
 have ck:e*d*b=e*b*d:=by grind
 have h2:c*f*b=e*d*b:=by rw[k]
 omega
theorem Jd{a b c d e f:Int}(aa:0<b)(hd:0<d)(au:0<f)(h:a*d=c*b)(k:c*f=e*d):a*f=e*b:=by
 refine eq_mul (c:=d) ?_ hd;have aH:a*d*f=a*f*d:=by grind
 have aN:c*b*f=c*f*b:=by grind
 have ck:e*d*b=e*b*d:=by grind
 have h1:a*d*f=c*b*f:=by rw[h]
 have h2:c*f*b=e*d*b:=by rw[k]
 omega
theorem Ex(x y:iJ):(x.n*y.d<y.n*x.d∧iu x y<0)∨(x.n*y.d=y.n*x.d∧iu x y=0)∨(y.n*x.d<x.n*y.d∧0<iu x y):=by
 have h1:=aeH (x.n*y.d) (y.n*x.d);have h2:=aeG (x.n*y.d) (y.n*x.d);have ar:=aeF (x.n*y.d) (y.n*x.d);unfold iu;omega
theorem RZ(x y:iJ):(sH x y=x∧(0<iu x y∨(iu x y=0∧y.own=true)))∨(sH x y=y∧¬(0<iu x y∨(iu x y=0∧y.own=true))):=by
 unfold sH
 split
 ·rename_i h;exact .inl ⟨rfl,h⟩
 ·rename_i h;exact .inr ⟨rfl,h⟩
theorem O9(x y:iJ):(sk x y=x∧(iu x y<0∨(iu x y=0∧y.own=true)))∨(sk x y=y∧¬(iu x y<0∨(iu x y=0∧y.own=true))):=by
 unfold sk
 split
 ·rename_i h;exact .inl ⟨rfl,h⟩
 ·rename_i h;exact .inr ⟨rfl,h⟩
theorem Yr{x y:iJ}{n d:Int}(ab:0<x.d)(ai:0<y.d)(hd:0<d):rY (sH x y) n d↔rY x n d∧rY y n d:=by
 unfold rY;rcases RZ x y with ⟨e,h⟩|⟨e,h⟩ <;> rw[e] <;> rcases Ex x y with ⟨t,c⟩|⟨t,c⟩|⟨t,c⟩
 ·omega
 ·have aD:y.own=true:=by rcases h with h|⟨_,h⟩ <;> first|exact h|(exfalso;omega)
  refine⟨fun k=>⟨k,?_⟩,fun k=>k.1⟩;rcases k with k|⟨_,k⟩
  ·exact .inl (yB ai ab hd t.symm k)
  ·exact .inr ⟨aD,Jd ai ab hd t.symm k⟩
 ·refine⟨fun k=>⟨k,?_⟩,fun k=>k.1⟩;rcases k with k|⟨_,k⟩
  ·exact .inl (wU ai ab hd t k)
  ·exact .inl (yC ai ab hd t k)
 ·refine⟨fun k=>⟨?_,k⟩,fun k=>k.2⟩;rcases k with k|⟨_,k⟩
  ·exact .inl (wU ab ai hd t k)
  ·exact .inl (yC ab ai hd t k)
 ·refine⟨fun k=>⟨?_,k⟩,fun k=>k.2⟩;have aD:¬y.own=true:=fun q=>h (.inr ⟨c,q⟩);rcases k with k|⟨q,k⟩
  ·exact .inl (yB ab ai hd t k)
  ·exact absurd q aD
 ·omega
theorem ZA{x y:iJ}{n d:Int}(ab:0<x.d)(ai:0<y.d)(hd:0<d):rZ (sk x y) n d↔rZ x n d∧rZ y n d:=by
 unfold rZ;rcases O9 x y with ⟨e,h⟩|⟨e,h⟩ <;> rw[e] <;> rcases Ex x y with ⟨t,c⟩|⟨t,c⟩|⟨t,c⟩
 ·refine⟨fun k=>⟨k,?_⟩,fun k=>k.1⟩;rcases k with k|⟨_,k⟩
  ·exact .inl (wU hd ab ai k t)
  ·exact .inl (yB hd ab ai k t)
 ·have aD:y.own=true:=by rcases h with h|⟨_,h⟩ <;> first|exact h|(exfalso;omega)
  refine⟨fun k=>⟨k,?_⟩,fun k=>k.1⟩;rcases k with k|⟨_,k⟩
  ·exact .inl (yC hd ab ai k t)
  ·exact .inr ⟨aD,Jd hd ab ai k t⟩
 ·omega
 ·omega
 ·refine⟨fun k=>⟨?_,k⟩,fun k=>k.2⟩;have aD:¬y.own=true:=fun q=>h (.inr ⟨c,q⟩);rcases k with k|⟨q,k⟩
  ·exact .inl (yC hd ai ab k t.symm)
  ·exact absurd q aD
 ·refine⟨fun k=>⟨?_,k⟩,fun k=>k.2⟩;rcases k with k|⟨_,k⟩
  ·exact .inl (wU hd ai ab k t)
  ·exact .inl (yB hd ai ab k t)
def kQ(u v:Int)(own:Bool)(n d:Int):Prop:=0<u*(d-n)+v*n∨(own=true∧u*(d-n)+v*n=0)
theorem F6{p:Pa}{u v n d:Int}{own:Bool}(au:0<p.f.d)(aC:0<p.t.d)(hd:0<d):qL (py p u v own) n d↔qL p n d∧kQ u v own n d:=by
 have cz:u*(d-n)+v*n=(v-u)*n+u*d:=by grind
 unfold py
 by_cases h1:0<v-u
 ·rw[if_pos h1];unfold qL;rw[Yr au h1 hd]
  have:rY ⟨-u,v-u,own⟩ n d↔kQ u v own n d:=by
   unfold rY kQ;simp only;have aH : -u*d = -(u*d):=by grind
   have aN:n*(v-u)=(v-u)*n:=by grind
   rw[cz,aH,aN]
   constructor
   ·rintro (k|⟨k,l⟩)
    ·exact .inl (by omega)
    ·exact .inr ⟨k,by omega⟩
   ·rintro (k|⟨k,l⟩)
    ·exact .inl (by omega)
    ·exact .inr ⟨k,by omega⟩
  rw[this]
  constructor
  ·rintro⟨⟨a,b⟩,c⟩;exact⟨⟨a,c⟩,b⟩
  ·rintro⟨⟨a,c⟩,b⟩;exact⟨⟨a,b⟩,c⟩
 ·rw[if_neg h1]
  by_cases h2:v-u<0
  ·rw[if_pos h2];unfold qL;have aj:(0:Int) < -(v-u):=by omega
   rw[ZA aC aj hd]
   have:rZ ⟨u,-(v-u),own⟩ n d↔kQ u v own n d:=by
    unfold rZ kQ;simp only;have aN:n * -(v-u) = -((v-u)*n):=by grind
    rw[cz,aN]
    constructor
    ·rintro (k|⟨k,l⟩)
     ·exact .inl (by omega)
     ·exact .inr ⟨k,by omega⟩
    ·rintro (k|⟨k,l⟩)
     ·exact .inl (by omega)
     ·exact .inr ⟨k,by omega⟩
   rw[this]
   constructor
   ·rintro⟨a,b,c⟩;exact⟨⟨a,b⟩,c⟩
   ·rintro⟨⟨a,b⟩,c⟩;exact⟨a,b,c⟩
  ·rw[if_neg h2];have ck:v-u=0:=by omega
   have eg:u*(d-n)+v*n=u*d:=by rw[cz,ck];omega
   by_cases ar:u<0∨(u=0∧own=false)
   ·rw[if_pos ar]
    have ly:¬kQ u v own n d:=by
     unfold kQ;rw[eg];rcases ar with ar|⟨rfl,rfl⟩
     ·have:=qm ar hd;omega
     ·simp
    refine⟨fun k=>absurd k ?_,fun k=>absurd k.2 ly⟩;unfold qL rY rZ;simp;omega
   ·rw[if_neg ar]
    have aeC:kQ u v own n d:=by
     unfold kQ;rw[eg]
     by_cases aJ:u=0
     ·subst aJ;right;refine⟨?_,by simp⟩;cases own with
      | true=>rfl
      | false=>exact absurd (.inr ⟨rfl,rfl⟩) ar
     ·left;have:0<u:=by omega
      have:=qm this hd;omega
    exact⟨fun k=>⟨k,aeC⟩,fun k=>k.1⟩
theorem af2{x y:iJ}(ab:0<x.d)(ai:0<y.d):0<(sH x y).d:=by unfold sH;split <;> assumption
theorem aaI{x y:iJ}(ab:0<x.d)(ai:0<y.d):0<(sk x y).d:=by unfold sk;split <;> assumption
theorem xl{p:Pa}{u v:Int}{own:Bool}(au:0<p.f.d)(aC:0<p.t.d):0<(py p u v own).f.d∧0<(py p u v own).t.d:=by
 unfold py
 by_cases h1:0<v-u
 ·rw[if_pos h1];exact⟨af2 au h1,aC⟩
 ·rw[if_neg h1]
  by_cases h2:v-u<0
  ·rw[if_pos h2];exact⟨au,aaI aC (by simp only;omega)⟩
  ·rw[if_neg h2]
   split
   ·exact⟨by decide,by decide⟩
   ·exact⟨au,aC⟩
def St(x y:iJ):Int:=x.n*y.d+y.n*x.d
def Lc(x y:iJ):Int:=x.d*y.d+x.d*y.d
theorem agJ{p:Pa}(au:0<p.f.d)(aC:0<p.t.d)(h:p.f.n*p.t.d<p.t.n*p.f.d):0<Lc p.f p.t∧qL p (St p.f p.t) (Lc p.f p.t):=by
 unfold St Lc qL rY rZ;have hm:0<p.f.d*p.t.d:=Int.mul_pos au aC;refine⟨by omega,.inl ?_,.inl ?_⟩
 ·have:=qm h au;grind
 ·have:=qm h aC;grind
theorem Zl{p:Pa}(au:0<p.f.d)(aC:0<p.t.d):yo p=true↔∃n d,0<d∧qL p n d:=by
 unfold yo;simp only[pC,ef,cU]
 constructor
 ·intro h;rcases Ex p.f p.t with ⟨t,c⟩|⟨t,c⟩|⟨t,c⟩
  ·obtain⟨h1,h2⟩:=agJ au aC t;exact⟨_,_,h1,h2⟩
  ·rcases h with h|⟨⟨_,h1⟩,h2⟩
   ·omega
   ·exact⟨p.f.n,p.f.d,au,.inr ⟨h1,rfl⟩,.inr ⟨h2,t⟩⟩
  ·rcases h with h|⟨⟨h,_⟩,_⟩ <;> omega
 ·rintro⟨n,d,hd,h1,h2⟩;rcases Ex p.f p.t with ⟨t,c⟩|⟨t,c⟩|⟨t,c⟩
  ·exact .inl c
  ·right;refine⟨⟨c,?_⟩,?_⟩
   ·rcases h1 with h1|⟨h1,_⟩
    ·exfalso;rcases h2 with h2|⟨_,h2⟩
     ·have:=wU au hd aC h1 h2;omega
     ·have:=yC au hd aC h1 h2;omega
    ·exact h1
   ·rcases h2 with h2|⟨h2,_⟩
    ·exfalso;rcases h1 with h1|⟨_,h1⟩
     ·have:=wU au hd aC h1 h2;omega
     ·have:=yB au hd aC h1 h2;omega
    ·exact h2
  ·exfalso;rcases h1 with h1|⟨_,h1⟩ <;> rcases h2 with h2|⟨_,h2⟩
   ·have:=wU au hd aC h1 h2;omega
   ·have:=yC au hd aC h1 h2;omega
   ·have:=yB au hd aC h1 h2;omega
   ·have:=Jd au hd aC h1 h2;omega
def uX(cO v1 cP v2 kN v3 mz v4:Int)(o p:Bool):Pa:=py (py (py (py wz cO v1 o) cP v2 o) kN v3 p) mz v4 p
theorem aak(cO v1 cP v2 kN v3 mz v4:Int)(o p:Bool):0<(uX cO v1 cP v2 kN v3 mz v4 o p).f.d∧0<(uX cO v1 cP v2 kN v3 mz v4 o p).t.d:=by
 unfold uX;have h1:=xl (p:=wz) (u:=cO) (v:=v1) (own:=o) (by decide) (by decide);have h2:=xl (u:=cP) (v:=v2) (own:=o) h1.1 h1.2;have ar:=xl (u:=kN) (v:=v3) (own:=p) h2.1 h2.2;exact xl (u:=mz) (v:=v4) (own:=p) ar.1 ar.2
theorem YM{n d:Int}(hd:0<d):qL wz n d↔0≤n∧n≤d:=by
 unfold qL rY rZ wz;simp;omega
theorem OQ{cO v1 cP v2 kN v3 mz v4 n d:Int}{o p:Bool}(hd:0<d):qL (uX cO v1 cP v2 kN v3 mz v4 o p) n d↔(0≤n∧n≤d)∧kQ cO v1 o n d∧kQ cP v2 o n d∧kQ kN v3 p n d∧kQ mz v4 p n d:=by
 unfold uX;have h1:=xl (p:=wz) (u:=cO) (v:=v1) (own:=o) (by decide) (by decide);have h2:=xl (u:=cP) (v:=v2) (own:=o) h1.1 h1.2;have ar:=xl (u:=kN) (v:=v3) (own:=p) h2.1 h2.2;rw[F6 ar.1 ar.2 hd,F6 h2.1 h2.2 hd,F6 h1.1 h1.2 hd,F6 (by decide) (by decide) hd,YM hd];simp only[and_assoc]
def Met(cO v1 cP v2 kN v3 mz v4:Int)(o p:Bool):Prop:=∃n d,0<d∧(0≤n∧n≤d)∧kQ cO v1 o n d∧kQ cP v2 o n d∧kQ kN v3 p n d∧kQ mz v4 p n d
theorem aaj(cO v1 cP v2 kN v3 mz v4:Int)(o p:Bool):yo (uX cO v1 cP v2 kN v3 mz v4 o p)=true↔Met cO v1 cP v2 kN v3 mz v4 o p:=by
 obtain⟨h1,h2⟩:=aak cO v1 cP v2 kN v3 mz v4 o p;rw[Zl h1 h2]
 constructor
 ·rintro⟨n,d,hd,h⟩;exact⟨n,d,hd,(OQ hd).1 h⟩
 ·rintro⟨n,d,hd,h⟩;exact⟨n,d,hd,(OQ hd).2 h⟩
def yc(X Y W a1 a2 b1 b2:Int):Prop:=∃n d,0<d∧(0≤n∧n≤d)∧X*d=W*(a1*(d-n)+b1*n)∧Y*d=W*(a2*(d-n)+b2*n)
theorem Td{p1 p2 a1 a2 b1 b2:Int}(h:dN p1 p2 a1 a2 b1 b2):yc p1 p2 1 a1 a2 b1 b2:=by
 obtain⟨aF,h1,h2,ar,aJ⟩:=h;unfold cq at aF;unfold hM at h1 ar;unfold hL at h2 aJ;rcases Int.lt_trichotomy a1 b1 with g|g|g
 ·rw[if_neg (by omega)] at h1;rw[if_pos (show b1>a1 from g)] at h2;exact⟨p1-a1,b1-a1,by omega,by omega,by grind,by grind⟩
 ·subst g;rcases Int.lt_trichotomy a2 b2 with g|g|g
  ·rw[if_neg (by omega)] at ar;rw[if_pos (show b2>a2 from g)] at aJ;have:p1=a1:=by split at h1 <;> split at h2 <;> omega
   exact⟨p2-a2,b2-a2,by omega,by omega,by grind,by grind⟩
  ·subst g;have aH:p1=a1:=by split at h1 <;> split at h2 <;> omega
   have aN:p2=a2:=by split at ar <;> split at aJ <;> omega
   exact⟨0,1,by omega,by omega,by grind,by grind⟩
  ·rw[if_pos g] at ar;rw[if_neg (by omega)] at aJ;have:p1=a1:=by split at h1 <;> split at h2 <;> omega
   exact⟨a2-p2,a2-b2,by omega,by omega,by grind,by grind⟩
 ·rw[if_pos g] at h1;rw[if_neg (by omega)] at h2;exact⟨a1-p1,a1-b1,by omega,by omega,by grind,by grind⟩
theorem Mn{v W:Int}(gh:0<W)(h:0≤v*W):0≤v:=by
 refine Int.not_lt.1 fun a7 => ?_;have:=Int.mul_lt_mul_of_pos_right a7 gh;omega
theorem ald{v W:Int}(gh:0<W)(h:0<v*W):0<v:=by
 refine Int.not_le.1 fun hle => ?_;have:=qB hle (show 0≤W by omega);omega
theorem Ua{X Y W a1 a2 b1 b2 l1 l2 h1 h2:Int}(gh:0<W)(h:yc X Y W a1 a2 b1 b2)(g1:l1*W≤2*X)(g2:l2*W≤2*Y)(g3:2*X<h1*W)(g4:2*Y<h2*W) :
  Met (2*a1-l1) (2*b1-l1) (2*a2-l2) (2*b2-l2) (h1-2*a1) (h1-2*b1) (h2-2*a2) (h2-2*b2) true false:=by
 obtain⟨n,d,hd,aA,aH,aN⟩:=h
 have low:∀ {X a b l:Int},X*d=W*(a*(d-n)+b*n)→l*W≤2*X→kQ (2*a-l) (2*b-l) true n d:=fun{X a b l} e g=>by
  have k:=hR (show 0≤d by omega) (show 0≤2*X-l*W by omega);have e':((2*a-l)*(d-n)+(2*b-l)*n)*W=d*(2*X-l*W):=by grind
  rw[←e'] at k;rcases Int.lt_or_eq_of_le (Mn gh k) with h|h
  ·exact .inl h
  ·exact .inr ⟨rfl,h.symm⟩
 have high:∀ {X a b l:Int},X*d=W*(a*(d-n)+b*n)→2*X<l*W→kQ (l-2*a) (l-2*b) false n d:=fun{X a b l} e g=>by
  have k:=Int.mul_pos hd (show 0<l*W-2*X by omega);have e':((l-2*a)*(d-n)+(l-2*b)*n)*W=d*(l*W-2*X):=by grind
  rw[←e'] at k;exact .inl (ald gh k)
 exact⟨n,d,hd,aA,low aH g1,low aN g2,high aH g3,high aN g4⟩
theorem T9{X Y W a1 a2 b1 b2:Int}(h:yc X Y W a1 a2 b1 b2):(b1-a1)*(Y-a2*W)=(b2-a2)*(X-a1*W):=by
 obtain⟨n,d,hd,aA,aH,aN⟩:=h;have:d*((b1-a1)*(Y-a2*W)-(b2-a2)*(X-a1*W))=0:=by grind
 rcases uu.1 this with h|h
 ·omega
 ·omega
theorem Sk{a1 a2 b1 b2 c1 c2 d1 d2 X Y W W':Int}(h:dt a1 a2 b1 b2 c1 c2 d1 d2≠0)(e:ow a1 a2 b1 b2 c1 c2 d1 d2=kf X W Y W'):W'=W∧0<W∧yc X Y W c1 c2 d1 d2:=by
 obtain⟨_,cA⟩:=Wd h;unfold ow vw at e
 split at e
 ·rename_i aJ;obtain⟨_,_,bD,cp⟩:=aJ;have aH:=congrArg fW.n e;have aN:=congrArg fW.d e;have ck:=congrArg fW.m e;have eg:=congrArg fW.e e;simp only[kf] at aH aN ck eg;have ho:=Lo a1 a2 b1 b2 c1 c2 d1 d2;have nx:=Lp a1 a2 b1 b2 c1 c2 d1 d2;have hw:=MS a1 a2 b1 b2 c1 c2 d1 d2;rw[←aN,←eg];refine⟨rfl,SS h,?_⟩;rw[tv] at bD cp;unfold kE at aH ck bD cp;unfold jI at bD cp ⊢
  by_cases hs:dt a1 a2 b1 b2 c1 c2 d1 d2<0
  ·rw[if_pos hs] at aH ck bD cp ⊢;rw[if_pos hs] at bD cp
   have:=(Eo (x:=d1) (y:=c1) (u:=d2) (v:=c2) (A := -cq a1 a2 b1 b2 d1 d2) (B := -cq a1 a2 b1 b2 c1 c2) (D := -dt a1 a2 b1 b2 c1 c2 d1 d2) (by omega) (by omega) (by omega)).1 ⟨by
    rw[show c1 * -cq a1 a2 b1 b2 d1 d2-d1 * -cq a1 a2 b1 b2 c1 c2 = -k2 a1 a2 b1 b2 c1 c2 d1 d2 by grind];exact bD,by
    rw[show c2 * -cq a1 a2 b1 b2 d1 d2-d2 * -cq a1 a2 b1 b2 c1 c2 = -k3 a1 a2 b1 b2 c1 c2 d1 d2 by grind];exact cp⟩
   exact⟨cq a1 a2 b1 b2 c1 c2,-dt a1 a2 b1 b2 c1 c2 d1 d2,by omega,by omega,by rw[←aH];grind,by rw[←ck];grind⟩
  ·rw[if_neg hs] at aH ck bD cp ⊢;rw[if_neg hs] at bD cp
   have:=(Eo (x:=d1) (y:=c1) (u:=d2) (v:=c2) (A:=cq a1 a2 b1 b2 d1 d2) (B:=cq a1 a2 b1 b2 c1 c2) (D:=dt a1 a2 b1 b2 c1 c2 d1 d2) (by omega) (by omega) (by omega)).1 ⟨by
    rw[ho];exact bD,by
    rw[nx];exact cp⟩
   exact⟨-cq a1 a2 b1 b2 c1 c2,dt a1 a2 b1 b2 c1 c2 d1 d2,by omega,by omega,by rw[←aH];grind,by rw[←ck];grind⟩
 ·have:=congrArg fW.k e;simp[iV,kf] at this
theorem Cp{a1 a2 b1 b2 c1 c2 d1 d2 X Y W W':Int}(e:jt a1 a2 b1 b2 c1 c2 d1 d2=kf X W Y W'):W'=W∧0<W∧yc X Y W a1 a2 b1 b2∧yc X Y W c1 c2 d1 d2∧(∀p1 p2,dN p1 p2 a1 a2 b1 b2→dN p1 p2 c1 c2 d1 d2→X=p1*W∧Y=p2*W):=by
 unfold jt at e
 split at e
 ·rename_i hw;unfold xk inl at e
  split at e
  ·rename_i Kj;obtain⟨o1,o2⟩:=Kj;unfold xj at e
   split at e
   ·rename_i yM;have aH:=congrArg fW.n e;have aN:=congrArg fW.d e;have ck:=congrArg fW.m e;have eg:=congrArg fW.e e;simp only[kf] at aH aN ck eg;subst aN;subst eg;rw[CE] at o1 o2;rw[aH,ck] at o1 o2;refine⟨rfl,by decide,Td o1,Td o2,fun p1 p2 hp aj => ?_⟩
    have ad1:qu (eX a1 a2 b1 b2) (eG a1 a2 b1 b2) (en a1 a2 b1 b2) (eh a1 a2 b1 b2) (eX c1 c2 d1 d2) (eG c1 c2 d1 d2) (en c1 c2 d1 d2) (eh c1 c2 d1 d2)=0:=by
     rw[We] at hw;rcases oS a1 a2 b1 b2 with ⟨h1,h2,ar,aJ,_⟩|⟨h1,h2,ar,aJ,_⟩ <;> rcases oS c1 c2 d1 d2 with ⟨bD,cp,jE,lA,_⟩|⟨bD,cp,jE,lA,_⟩ <;> rw[h1,h2,ar,aJ,bD,cp,jE,lA] <;> unfold qu at hw ⊢ <;> grind
    obtain⟨_,_,_,_,l1,l2⟩:=R7 (y7 a1 a2 b1 b2) (y7 c1 c2 d1 d2) ad1 (CE.2 hp) (CE.2 aj);rw[←yM.1,←yM.2] at l2;have:=dP.Eb l1 l2;omega
   ·have:=congrArg fW.k e;simp[uR,kf] at this
  ·have:=congrArg fW.k e;simp[iV,kf] at this
 ·rename_i hw;obtain⟨g1,g2,g3⟩:=Sk hw e;have nE:dt c1 c2 d1 d2 a1 a2 b1 b2≠0:=by rw[Hs];omega
  obtain⟨_,_,g4⟩:=Sk nE (by rw[agC hw];exact e);refine⟨g1,g2,g4,g3,fun p1 p2 hp aj => ?_⟩;have l1:=T9 g4;have l2:=T9 g3;have q1:=hp.1;have q2:=aj.1;unfold cq at q1 q2
  have line:∀ {a1 a2 b1 b2:Int},(b1-a1)*(Y-a2*W)=(b2-a2)*(X-a1*W)→(b1-a1)*(p2-a2)-(b2-a2)*(p1-a1)=0→(b1-a1)*(Y-p2*W)=(b2-a2)*(X-p1*W):=fun{a1 a2 b1 b2} l q=>by
   have z:(b1-a1)*(Y-p2*W)-(b2-a2)*(X-p1*W)=((b1-a1)*(Y-a2*W)-(b2-a2)*(X-a1*W))-((b1-a1)*(p2-a2)-(b2-a2)*(p1-a1))*W:=by grind
   rw[q,l,Int.zero_mul] at z;omega
  have m1:=line l1 q1;have m2:=line l2 q2
  have jU:dt a1 a2 b1 b2 c1 c2 d1 d2*(X-p1*W)=0:=by
   have z:dt a1 a2 b1 b2 c1 c2 d1 d2*(X-p1*W)=(b1-a1)*((d2-c2)*(X-p1*W))-(d1-c1)*((b2-a2)*(X-p1*W)):=by unfold dt;grind
   rw[z,←m1,←m2,Int.mul_left_comm];omega
  have z2:dt a1 a2 b1 b2 c1 c2 d1 d2*(Y-p2*W)=0:=by
   have z:dt a1 a2 b1 b2 c1 c2 d1 d2*(Y-p2*W)=(d2-c2)*((b1-a1)*(Y-p2*W))-(b2-a2)*((d1-c1)*(Y-p2*W)):=by unfold dt;grind
   rw[z,m1,m2,Int.mul_left_comm];omega
  have jT:=(uu.1 jU).resolve_left hw;have mA:=(uu.1 z2).resolve_left hw;omega
def Ai(S:Int)(p q x:Int×Int):Prop:=Met (2*(S*p.1)-(2*(S*x.1)-S)) (2*(S*q.1)-(2*(S*x.1)-S)) (2*(S*p.2)-(2*(S*x.2)-S)) (2*(S*q.2)-(2*(S*x.2)-S)) (2*(S*x.1)+S-2*(S*p.1)) (2*(S*x.1)+S-2*(S*q.1)) (2*(S*x.2)+S-2*(S*p.2)) (2*(S*x.2)+S-2*(S*q.2)) true false
def DL(S X Y W:Int)(x:Int×Int):Prop:=((2*(S*x.1)-S)*W≤2*X∧2*X<(2*(S*x.1)+S)*W)∧(2*(S*x.2)-S)*W≤2*Y∧2*Y<(2*(S*x.2)+S)*W
abbrev Ns(S:Int)(x p q:Int×Int):Prop:=dN (S*x.1) (S*x.2) (S*p.1) (S*p.2) (S*q.1) (S*q.2)
theorem Ta(S:Int)(p q:Int×Int):Ns S p p q:=by
 refine⟨IE ..,?_⟩;unfold tX hM hL
 split <;> split <;> split <;> split <;> omega
theorem Tb(S:Int)(p q:Int×Int):Ns S q p q:=by
 refine⟨OO ..,?_⟩;unfold tX hM hL
 split <;> split <;> split <;> split <;> omega
theorem agG{S:Int}(hS:0<S){p q fH cH x:Int×Int}{X Y W W':Int}(e:jt (S*p.1) (S*p.2) (S*q.1) (S*q.2) (S*fH.1) (S*fH.2) (S*cH.1) (S*cH.2)=kf X W Y W')(ab:DL S X Y W x)(h1:Ai S p q x→x=p∨x=q)(h2:Ai S fH cH x→x=fH∨x=cH) :
  (x=p∨x=q)∧(x=fH∨x=cH)∧X=S*x.1*W∧Y=S*x.2*W:=by
 obtain⟨_,gh,g1,g2,g3⟩:=Cp e;obtain⟨⟨b1,b2⟩,dO,dh⟩:=ab;have bD:=h1 (Ua gh g1 b1 dO b2 dh);have cp:=h2 (Ua gh g2 b1 dO b2 dh);refine⟨bD,cp,g3 _ _ ?_ ?_⟩
 ·rcases bD with rfl|rfl
  ·exact Ta ..
  ·exact Tb ..
 ·rcases cp with rfl|rfl
  ·exact Ta ..
  ·exact Tb ..
end Go.Proofs.YtklpfooafbjnpaaGreat
namespace Go.Proofs.YtklpfooafbjnpaaGreat.bw
abbrev gH:=Int×Int
abbrev Sj(S:Int)(l m:gH×gH):fW:=jt (S*l.1.1) (S*l.1.2) (S*l.2.1) (S*l.2.2) (S*m.1.1) (S*m.1.2) (S*m.2.1) (S*m.2.2)
def At(l m:gH×gH):Prop:=l.1=m.1∨l.1=m.2∨l.2=m.1∨l.2=m.2
structure Aq (S:Int) (o:cT gH):Prop where
 pos:0<S
 adx:∀p q x,o.Fx p q x=true→Ai S p q x
 Qr:∀p q x,o.gI p→o.gI q→o.gI x→Ai S p q x→o.Fx p q x=true
 OP:∀l m x,o.cut l m=some x→¬At l m∧∃X Y W W',Sj S l m=kf X W Y W'∧DL S X Y W x
 aai:∀l m,o.gI l.1→o.gI l.2→o.gI m.1→o.gI m.2→o.cut l m=none→(Sj S l m).k=1→At l m
theorem Aq.own{S:Int}{o:cT gH}(h:Aq S o){hot:List gH}(aw:∀y∈hot,o.gI y){p q x:gH}(hp:p∈hot)(aj:q∈hot)(ab:x∈hot)(hs:tm o hot p q)(hm:Ai S p q x):x=p∨x=q:=by
 have h1:=hs x ab;have h2:=h.Qr p q x (aw _ hp) (aw _ aj) (aw _ ab) hm;unfold kv at h1;rw[h2,Bool.and_true,Bool.and_eq_false_iff] at h1;rcases h1 with h1|h1
 ·exact .inl (by simpa using h1)
 ·exact .inr (by simpa using h1)
theorem Aq.aam{S:Int}{o:cT gH}(h:Aq S o)(hot:List gH)(p q fH cH x:gH)(aw:∀y∈hot,o.gI y)(hp:p∈hot)(aj:q∈hot)(mS:fH∈hot)(lS:cH∈hot)(hs:tm o hot p q)(FM:tm o hot fH cH)(ak:o.cut (p,q) (fH,cH)=some x):x∉hot:=fun ab=>by
 obtain⟨aA,X,Y,W,W',e,j6⟩:=h.OP _ _ _ ak;obtain⟨g1,g2,_⟩:=agG h.pos e j6 (h.own aw hp aj ab hs) (h.own aw mS lS ab FM);refine aA ?_;unfold At;rcases g1 with rfl|rfl <;> rcases g2 with g2|g2
 ·exact .inl g2
 ·exact .inr (.inl g2)
 ·exact .inr (.inr (.inl g2))
 ·exact .inr (.inr (.inr g2))
end Go.Proofs.YtklpfooafbjnpaaGreat.bw
namespace Go.Proofs.YtklpfooafbjnpaaGreat
def fR(S X W:Int):Int:=(2*X+S*W)/(2*(S*W))
theorem GM{S W:Int}(hS:0<S)(gh:0<W)(X:Int):(2*(S*fR S X W)-S)*W≤2*X∧2*X<(2*(S*fR S X W)+S)*W:=by
 have acr:=Int.mul_pos hS gh;unfold fR;have h1:=rD (2*X+S*W) (2*(S*W));have h2:=pE (2*X+S*W) (show 2*(S*W)≠0 by omega);have ar:=o7 (2*X+S*W) (show 0<2*(S*W) by omega);generalize (2*X+S*W)/(2*(S*W))=g at *;generalize (2*X+S*W) % (2*(S*W))=m at *;have aH:(2*(S*g)-S)*W=2*(S*W)*g-S*W:=by grind
 have aN:(2*(S*g)+S)*W=2*(S*W)*g+S*W:=by grind
 omega
theorem aeM{S X Y W:Int}(hS:0<S)(gh:0<W):DL S X Y W (fR S X W,fR S Y W):=⟨GM hS gh X,GM hS gh Y⟩
theorem Ug{S X W n d p q g:Int}(hS:0<S)(gh:0<W)(hd:0<d)(aA:0≤n∧n≤d)(e:X*d=W*(S*p*(d-n)+S*q*n))(h1:(2*(S*g)-S)*W≤2*X)(h2:2*X<(2*(S*g)+S)*W):(p≤q→p≤g∧g≤q)∧(q≤p→q≤g∧g≤p):=by
 have acr:=Int.mul_pos hS gh
 have ags:∀ {b:Int},b≤p→b≤q→S*W*b≤X:=fun{b} bD cp=>by
  have m1:=hR (show 0≤S*W by omega) (hR (show 0≤p-b by omega) (show 0≤d-n by omega));have m2:=hR (show 0≤S*W by omega) (hR (show 0≤q-b by omega) aA.1);have e':(X-S*W*b)*d=S*W*((p-b)*(d-n))+S*W*((q-b)*n):=by grind
  have:=Mn (v:=X-S*W*b) hd (by rw[e'];omega);omega
 have adv:∀ {b:Int},p≤b→q≤b→X≤S*W*b:=fun{b} bD cp=>by
  have m1:=hR (show 0≤S*W by omega) (hR (show 0≤b-p by omega) (show 0≤d-n by omega));have m2:=hR (show 0≤S*W by omega) (hR (show 0≤b-q by omega) aA.1);have e':(S*W*b-X)*d=S*W*((b-p)*(d-n))+S*W*((b-q)*n):=by grind
  have:=Mn (v:=S*W*b-X) hd (by rw[e'];omega);omega
 have low:∀ {b:Int},b≤p→b≤q→b≤g:=fun{b} bD cp=>by
  have ho:=ags bD cp;refine Int.not_lt.1 fun a7 => ?_;have m:=s0 (show g+1≤b by omega) (show 0≤S*W by omega);have aN:(2*(S*g)+S)*W=2*(S*W*(g+1))-S*W:=by grind
  omega
 have high:∀ {b:Int},p≤b→q≤b→g≤b:=fun{b} bD cp=>by
  have ho:=adv bD cp;refine Int.not_lt.1 fun a7 => ?_;have m:=s0 (show b+1≤g by omega) (show 0≤S*W by omega);have aH:(2*(S*g)-S)*W=2*(S*W*g)-S*W:=by grind
  have ck:S*W*(b+1)=S*W*b+S*W:=by grind
  omega
 exact⟨fun h=>⟨low (o5 _) h,high h (o5 _)⟩,fun h=>⟨low h (o5 _),high (o5 _) h⟩⟩
def e9(lt:Int×Int→Int×Int→Bool):List (Int×Int)→List (Int×Int)→List (Int×Int)
 | [],b=>b
 | x::a,[]=>x::a
 | x::a,y::b=>if lt y x then y::e9 lt (x::a) b else x::e9 lt a (y::b)
termination_by a b=>a.length+b.length
theorem Lj(lt:Int×Int→Int×Int→Bool)(a:List (Int×Int)):e9 lt a []=a:=by cases a <;> simp[e9]
theorem agO(lt:Int×Int→Int×Int→Bool)(a:List (Int×Int)):e9 lt [] a=a:=by simp[e9]
theorem Li(lt:Int×Int→Int×Int→Bool):∀a b,(e9 lt a b).length=a.length+b.length:=by
 intro a b
 induction a,b using e9.induct lt with
 | case1 b=>simp[e9]
 | case2 x a=>simp[e9]
 | case3 x a y b h bY=>rw[e9,if_pos h,hP,bY];simp;omega
 | case4 x a y b h bY=>rw[e9,if_neg h,hP,bY];simp;omega
def jR(lt:Int×Int→Int×Int→Bool)(l:List (Int×Int)):List (Int×Int) :=
 if h:l.length<2 then l else e9 lt (jR lt (l.take (l.length/2))) (jR lt (l.drop (l.length/2)))
termination_by l.length
decreasing_by all_goals (simp;omega)
theorem Hf(lt:Int×Int→Int×Int→Bool):∀(N:Nat) (l:List (Int×Int)),l.length≤N→(jR lt l).length=l.length
 | 0,l,h=>by rw[jR,dif_pos (by omega)]
 | N+1,l,h=>by
  rw[jR]
  split
  ·rfl
  ·rw[Li,Hf lt N _ (by simp;omega),Hf lt N _ (by simp;omega)];simp;omega
end Go.Proofs.YtklpfooafbjnpaaGreat
namespace Go.Proofs.YtklpfooafbjnpaaGreat
open Go.RowKit
def bZ:List (Int×Int)→List AC
 | []=>[]
 | p::l => .c (.int .i64 p.1) :: .c (.int .i64 p.2)::bZ l
abbrev fD(l:List (Int×Int)):ag:=cE 2 l.length (bZ l)
theorem Rv:∀(l:List (Int×Int)) (i:Nat) (p:Int×Int),l[i]?=some p→((bZ l).drop (i*2)).take 2=[.c (.int .i64 p.1),.c (.int .i64 p.2)]
 | [],i,p,h=>by simp at h
 | q::l,0,p,h=>by simp at h;subst h;simp[bZ]
 | q::l,i+1,p,h=>by
  have e:(i+1)*2=i*2+1+1:=by omega
  rw[e];simp only[bZ,List.drop_succ_cons];exact Rv l i p (by simpa using h)
theorem oR{l:List (Int×Int)}{j:Int}{i:Nat}{x y:Int}(af:j=i)(h:l[i]?=some (x,y)):((bZ l).drop (j.toNat*2)).take 2=[.c (.int .i64 x),.c (.int .i64 y)]:=by
 subst af;exact Rv l i (x,y) h
theorem ot:∀(l:List (Int×Int)),(bZ l).length=l.length*2
 | []=>rfl
 | p::l=>by simp only[bZ,hP,ot l];omega
theorem ua:∀(l m:List (Int×Int)),bZ (l++m)=bZ l++bZ m
 | [],_=>rfl
 | p::l,m=>by simp only[uo,bZ,ua l m]
theorem ub:∀(l:List (Int×Int)),(bZ l).all AC.aY=true
 | []=>rfl
 | p::l=>by simp only[bZ,kI,ub l];rfl
def cK(l:List Int):List AC:=l.map fun x => .c (.int .i64 x)
abbrev lH(l:List Int):ag:=cE 1 l.length (cK l)
theorem tY{l:List Int}{j:Int}{i:Nat}{x:Int}(af:j=i)(h:l[i]?=some x):((cK l).drop (j.toNat*1)).take 1=[.c (.int .i64 x)]:=by
 subst af;have hi:=(bt.1 h).1;rw[kH,Nat.mul_one,jP (by simpa [cK] using hi)];have:l[i]=x:=(bt.1 h).2;simp[cK,this]
theorem B9(l m:List Int):cK (l++m)=cK l++cK m:=by simp[cK]
instance aog:nm ah 51 3 1 8:=⟨by kernel_rfl⟩
def AB(x y z w:Int)(fx fy:Bool):Bool:=if x<z then !fx else if z<x then fx else if y<w then !fy else decide (w<y)&&fy
end Go.Proofs.YtklpfooafbjnpaaGreat
namespace Go.Proofs.YtklpfooafbjnpaaGreat
abbrev aq:=Int×Int
def ec(fx fy:Bool)(p q:aq):Bool:=AB p.1 p.2 q.1 q.2 fx fy
theorem Az{fx fy:Bool}{p q:aq}:ec fx fy p q=true↔(if fx then q.1<p.1 else p.1<q.1)∨(p.1=q.1∧if fy then q.2<p.2 else p.2<q.2):=by
 unfold ec AB
 by_cases h1:p.1<q.1
 ·cases fx <;> simp[h1] <;> omega
 ·by_cases h2:q.1<p.1
  ·cases fx <;> simp[h1,h2] <;> omega
  ·have e:p.1=q.1:=by omega
   by_cases ar:p.2<q.2
   ·cases fx <;> cases fy <;> simp[h1,h2,ar,e] <;> omega
   ·cases fx <;> cases fy <;> simp[h1,h2,ar,e] <;> omega
theorem AA{fx fy:Bool}{p q r:aq}(h1:ec fx fy p q=true)(h2:ec fx fy q r=true):ec fx fy p r=true:=by
 rw[Az] at *;cases fx <;> cases fy <;> simp at * <;> omega
theorem NL{fx fy:Bool}{p:aq}:ec fx fy p p=false:=by
 cases h:ec fx fy p p with
 | false=>rfl
 | true=>rw[Az] at h;cases fx <;> cases fy <;> simp at h
theorem NK{fx fy:Bool}{p q:aq}(h1:ec fx fy p q=true):ec fx fy q p=false:=by
 cases h:ec fx fy q p with
 | false=>rfl
 | true=>have:=AA h1 h;rw[NL] at this;cases this
theorem Ib{fx fy:Bool}{p q:aq}(h:p≠q):ec fx fy p q=true∨ec fx fy q p=true:=by
 rw[Az,Az]
 have:p.1≠q.1∨p.2≠q.2:=by
  by_cases h1:p.1=q.1
  ·exact .inr fun h2=>h (Prod.ext h1 h2)
  ·exact .inl h1
 cases fx <;> cases fy <;> simp <;> omega
def lh(fx fy:Bool)(l:List aq):Prop:=l.Pairwise fun p q=>ec fx fy p q=true
theorem N5{fx fy:Bool}:∀ {l m:List aq},lh fx fy l→lh fx fy m→l.Perm m→l=m
 | [],m,_,_,hp=>by have:=hp.nil_eq;exact this
 | p::l,[],_,_,hp=>by have:=hp.length_eq;simp at this
 | p::l,q::m,al,hm,hp=>by
  have h1:=ki.1 al;have h2:=ki.1 hm
  have e:p=q:=by
   rcases fi.1 (hp.mem_iff.1 (hA ..):p∈q::m) with h|h
   ·exact h
   ·rcases fi.1 (hp.mem_iff.2 (hA ..):q∈p::l) with aK|aK
    ·exact aK.symm
    ·have a:=h1.1 q aK;have b:=h2.1 p h;rw[NK a] at b;cases b
  subst e;rw[N5 h1.2 h2.2 (List.perm_cons p |>.1 hp)]
def nG(fx fy:Bool)(q:aq):List aq→List aq
 | []=>[q]
 | p::l=>if ec fx fy q p then q::p::l else p::nG fx fy q l
theorem Ca(fx fy:Bool)(q:aq):∀l,(nG fx fy q l).Perm (q::l)
 | [] => .refl _
 | p::l=>by
  unfold nG
  split
  ·exact .refl _
  ·exact((Ca fx fy q l).cons p).trans (.swap q p l)
theorem Rq{fx fy:Bool}{q:aq}:∀ {l:List aq},lh fx fy l→q∉l→lh fx fy (nG fx fy q l)
 | [],_,_=>by unfold nG lh;simp
 | p::l,h,aA=>by
  have ak:=ki.1 h;unfold nG
  split
  ·rename_i aj;refine ki.2 ⟨fun r ao => ?_,h⟩;rcases fi.1 ao with rfl|ao
   ·exact aj
   ·exact AA aj (ak.1 r ao)
  ·rename_i aj;refine ki.2 ⟨fun r ao => ?_,Rq ak.2 fun aK=>aA (k5 _ aK)⟩;rcases fi.1 ((Ca fx fy q l).mem_iff.1 ao) with rfl|ao
   ·rcases Ib (fx:=fx) (fy:=fy) (p:=p) (q:=r) (fun e=>aA (by rw[e];exact hA ..)) with aK|aK
    ·exact aK
    ·exact absurd aK aj
   ·exact ak.1 r ao
def tb(fx fy:Bool)(f:aq→Bool)(l:List aq):List aq:=l.foldl (fun out q=>if f q then nG fx fy q out else out) []
theorem Hc(fx fy:Bool)(f:aq→Bool)(l:List aq):(tb fx fy f l).Perm (l.filter f):=by
 have key:∀(l out:List aq),(l.foldl (fun out q=>if f q then nG fx fy q out else out) out).Perm (out++l.filter f):=by
  intro l
  induction l with
  | nil=>intro out;simp
  | cons q l bY =>
   intro out;rw[um,List.filter_cons]
   by_cases aj:f q=true
   ·rw[if_pos aj,if_pos aj];refine(bY _).trans ?_;refine((Ca fx fy q out).append_right _).trans ?_;exact List.perm_middle.symm
   ·rw[if_neg aj,if_neg aj];exact bY out
 exact key l []
theorem alG(fx fy:Bool)(f:aq→Bool)(l:List aq):(tb fx fy f l).length≤l.length:=by
 rw[(Hc fx fy f l).length_eq];exact List.length_filter_le _ _
theorem alE(fx fy:Bool)(f:aq→Bool){l:List aq}(aA:l.Nodup):lh fx fy (tb fx fy f l):=by
 have key:∀(l out:List aq),lh fx fy out→(out++l).Nodup→lh fx fy (l.foldl (fun out q=>if f q then nG fx fy q out else out) out):=by
  intro l
  induction l with
  | nil=>intro out h _;exact h
  | cons q l bY =>
   intro out h hd;have hm:=List.nodup_append.1 hd;have aj:q∉out:=fun j6=>hm.2.2 q j6 q (hA ..) rfl;rw[um]
   by_cases au:f q=true
   ·rw[if_pos au];refine bY _ (Rq h aj) ?_;have hp:(nG fx fy q out++l).Perm (out++q::l):=((Ca fx fy q out).append_right l).trans List.perm_middle.symm;exact hp.nodup_iff.2 hd
   ·rw[if_neg au];refine bY _ h ?_;exact hd.sublist (List.Sublist.append_left (List.sublist_cons_self q l) out)
 exact key l [] List.Pairwise.nil (by simpa using aA)
theorem Lk(lt:aq→aq→Bool):∀a b,(e9 lt a b).Perm (a++b):=by
 intro a b
 induction a,b using e9.induct lt with
 | case1 b=>simp[e9]
 | case2 x a=>simp[e9]
 | case3 x a y b h bY =>
  rw[e9,if_pos h];exact(bY.cons y).trans List.perm_middle.symm
 | case4 x a y b h bY =>
  rw[e9,if_neg h];exact bY.cons x
theorem agN{fx fy:Bool}:∀a b,lh fx fy a→lh fx fy b→(a++b).Nodup→lh fx fy (e9 (ec fx fy) a b):=by
 intro a b
 induction a,b using e9.induct (ec fx fy) with
 | case1 b=>intro _ h _;simpa [e9] using h
 | case2 x a=>intro h _ _;simpa [e9] using h
 | case3 x a y b h bY =>
  intro aV aa hd;rw[e9,if_pos h];have Fh:=ki.1 aa;have dy:=ki.1 aV;have tL:(x::a++b).Nodup:=hd.sublist (List.Sublist.append_left (List.sublist_cons_self y b) (x::a));refine ki.2 ⟨fun r ao => ?_,bY aV Fh.2 tL⟩;rcases kg.1 ((Lk _ _ _).mem_iff.1 ao) with ao|ao
  ·rcases fi.1 ao with rfl|ao
   ·exact h
   ·exact AA h (dy.1 r ao)
  ·exact Fh.1 r ao
 | case4 x a y b h bY =>
  intro aV aa hd;rw[e9,if_neg h];have Fh:=ki.1 aa;have dy:=ki.1 aV;have mn:x≠y:=fun e=>(List.nodup_append.1 hd).2.2 x (hA ..) y (hA ..) e;have a7:ec fx fy x y=true:=(Ib mn).resolve_right h;have tL:(a++y::b).Nodup:=(List.nodup_cons.1 hd).2;refine ki.2 ⟨fun r ao => ?_,bY dy.2 aa tL⟩;rcases kg.1 ((Lk _ _ _).mem_iff.1 ao) with ao|ao
  ·exact dy.1 r ao
  ·rcases fi.1 ao with rfl|ao
   ·exact a7
   ·exact AA a7 (Fh.1 r ao)
theorem Dc(lt:aq→aq→Bool):∀(N:Nat) (l:List aq),l.length≤N→(jR lt l).Perm l
 | N,l,h=>by
  by_cases q:l.length<2
  ·rw[jR,dif_pos q]
  ·match N with
   | 0=>omega
   | N+1 =>
    rw[jR,dif_neg q];refine(Lk lt _ _).trans ?_;refine((Dc lt N _ (by simp;omega)).append (Dc lt N _ (by simp;omega))).trans ?_;rw[kh]
theorem My{fx fy:Bool}:∀(N:Nat) (l:List aq),l.length≤N→l.Nodup→lh fx fy (jR (ec fx fy) l)
 | N,l,h,hd=>by
  by_cases q:l.length<2
  ·rw[jR,dif_pos q]
   match l,q with
   | [],_=>exact .nil
   | [x],_=>unfold lh;simp
   | x::y::l,q=>exact absurd q (by simp)
  ·match N with
   | 0=>omega
   | N+1 =>
    rw[jR,dif_neg q];refine agN _ _ (My N _ (by simp;omega) (hd.sublist (List.take_sublist _ _))) (My N _ (by simp;omega) (hd.sublist (List.drop_sublist _ _))) ?_;have hp:=(Dc (ec fx fy) N (l.take (l.length/2)) (by simp;omega)).append (Dc (ec fx fy) N (l.drop (l.length/2)) (by simp;omega));rw[kh] at hp;exact hp.nodup_iff.2 hd
theorem alS{fx fy:Bool}{f:aq→Bool}{l m:List aq}(aA:l.Nodup)(hp:m.Perm (l.filter f)):jR (ec fx fy) m=tb fx fy f l :=
 N5 (My _ m (cF _) (hp.nodup_iff.2 (aA.sublist List.filter_sublist))) (alE fx fy f aA) ((Dc _ _ m (cF _)).trans (hp.trans (Hc fx fy f l).symm))
end Go.Proofs.YtklpfooafbjnpaaGreat
namespace Go.Proofs.YtklpfooafbjnpaaGreat
open Go.RowKit
def Df(P:Program)(sq:TypeId)(agg:Bool)(n:Nat):Bool:=match lG P sq with
 | some (b,m)=>Bool.beq b agg&&Nat.beq m n
 | none=>false
where Bool.beq:Bool→Bool→Bool
 | true,true=>true
 | false,false=>true
 | _,_=>false
def Jc(P:Program)(ty i off:Nat)(agg:Bool)(n:Nat):Bool:=match P.underlying ty with
 | some (.struct bq)=>match bq[i]? with
  | some f=>Nat.beq f.offset off&&Df P f.type agg n
  | none=>false
 | _=>false
def KJ(P:Program)(ty len:Nat)(agg:Bool)(n:Nat):Bool:=match P.underlying ty with
 | some (.array l e)=>Nat.beq l len&&Df P e agg n&&(match P.info? e with|some t=>Nat.beq t.size n|none=>false)
 | _=>false
class HH (P:Program) (ty i:Nat) (off:outParam Nat) (agg:outParam Bool) (n:outParam Nat):Prop where
 h:Jc P ty i off agg n=true
class HN (P:Program) (ty:Nat) (len:outParam Nat) (agg:outParam Bool) (n:outParam Nat):Prop where
 h:KJ P ty len agg n=true
section
variable{P:Program}
theorem V4{sq n:Nat}{agg:Bool}(h:Df P sq agg n=true):lG P sq=some (agg,n):=by
 unfold Df at h
 split at h
 ·rename_i b m aa;rw[ef] at h;have e:=gl h.2;have aN:b=agg:=by cases b <;> cases agg <;> simp[Df.Bool.beq] at h ⊢
  rw[aa,e,aN]
 ·cases h
theorem Vf{sq n off:Nat}{cs:List Value}{v:Value}{W:World}(h:lG P sq=some (false,n))(hv:cs[off]?=some v):(part sq cs.toArray off).run P W = .ok v W:=by
 unfold lG at h;cases hu:P.underlying sq with
 | none=>rw[hu] at h;cases h
 | some D =>
  have h1:(isAgg sq).run P W = .ok false W:=by
   unfold isAgg;simp only[Sem.run_bind,run_underlying hu,Result.andThen_ok];cases hi:P.info? sq with
   | none=>rw[hu,hi] at h;cases D <;> first|rfl|(cases h)
   | some eJ=>rw[hu,hi] at h;cases D <;> first|rfl|(cases h)
  unfold part;simp only[Sem.run_bind,h1,Result.andThen_ok,pB,if_false,List.getElem?_toArray,hv,Sem.run_pure]
variable{s:aB}{ops:Array Oper}{K:aB→Prop}{rest:List Oper}{ty:Nat}{pos:String}{after:Array Edge}{guard:Option (Nat×Bool)}{d:Nat}
theorem abg{dk i off n:Nat}{agg:Bool}(h:Jc P dk i off agg n=true):∃bq f,P.underlying dk=some (.struct bq)∧bq[i]?=some f∧f.offset=off∧lG P f.type=some (agg,n):=by
 unfold Jc at h
 split at h
 ·rename_i bq hu
  split at h
  ·rename_i f au;rw[ef] at h;exact⟨bq,f,hu,au,gl h.1,V4 h.2⟩
  ·cases h
 ·cases h
theorem aeW{dk len n:Nat}{agg:Bool}(h:KJ P dk len agg n=true):∃e t,P.underlying dk=some (.array len e)∧P.info? e=some t∧t.size=n∧lG P e=some (agg,n):=by
 unfold KJ at h
 split at h
 ·rename_i l e hu;simp only[ef] at h;obtain⟨⟨h1,h2⟩,ar⟩:=h
  split at ar
  ·rename_i t aC;exact⟨e,t,by rw[hu,gl h1],aC,gl ar,V4 h2⟩
  ·cases ar
 ·cases h
theorem YH{x:Operand}{dk i off n:Nat}{xs:List AC}{y:AC} [F:HH P dk i off false n](hw:want ops ⟨some d,.field dk x i,ty,pos,after,guard⟩ s=some true)(ab:s.look x=some (.w (.agg xs)))(ak:xs[off]?=some y)(hd:Nat.blt d s.n=true)(h:bm P ops K rest (s.put (some d) (.w (.one y)))):bm P ops K (⟨some d,.field dk x i,ty,pos,after,guard⟩::rest) s:=by
 refine fZ hw ⟨fun _ _ h=>(by cases h),fun z aT => ?_,fun U ad W env he => ?_,fun j af=>⟨x,by simp[Op.operands],_,ab,?_⟩⟩ hd h
 ·simp[Op.operands] at aT;subst aT;exact⟨_,ab⟩
 ·obtain⟨vs,aH,al⟩:=he x (by simp[Op.operands]) _ ab;obtain⟨bq,f,hu,au,aD,eS⟩:=abg F.h;have a7:off<vs.length:=by rw[←al.1];exact(bt.1 ak).1
  refine⟨vs[off],?_,al.2 off y _ ak (bE a7)⟩;simp only[execOp,Instr.field,aH,Sem.run_bind,run_underlying hu,Result.andThen_ok,au,asAgg,Sem.run_pure,aD,Vf eS (bE a7)]
 ·obtain⟨z,aT,B6⟩:=af;simp[bG.cells] at aT;subst aT;exact⟨z,cN ak,B6⟩
theorem NV{x y:Operand}{dk len n:Nat}{gK:IntKind}{i:Int}{xs:List AC}{z:AC} [A:HN P dk len false n](hw:want ops ⟨some d,.index dk x y,ty,pos,after,guard⟩ s=some true)(ab:s.look x=some (.w (.agg xs)))(ai:s.look y=some (aQ (.int gK i)))(aF:0≤i)(h1:i<len)(ak:xs[i.toNat*n]?=some z)(hd:Nat.blt d s.n=true)(h:bm P ops K rest (s.put (some d) (.w (.one z)))):bm P ops K (⟨some d,.index dk x y,ty,pos,after,guard⟩::rest) s:=by
 refine fZ hw ⟨fun _ _ h=>(by cases h),fun z aT => ?_,fun U ad W env he => ?_,fun j af=>⟨x,by simp[Op.operands],_,ab,?_⟩⟩ hd h
 ·simp[Op.operands] at aT;rcases aT with rfl|rfl
  ·exact⟨_,ab⟩
  ·exact⟨_,ai⟩
 ·obtain⟨vs,aH,al⟩:=he x (by simp[Op.operands]) _ ab;have hi:env y = .int gK i:=(he y (by simp[Op.operands]) _ ai).1;obtain⟨e,t,hu,aC,hs,eS⟩:=aeW A.h;have a7:i.toNat*n<vs.length:=by rw[←al.1];exact(bt.1 ak).1
  refine⟨vs[i.toNat*n],?_,al.2 _ z _ ak (bE a7)⟩;simp only[execOp,Instr.index,aH,hi,asIntOf,Sem.run_bind,Sem.run_pure,Result.andThen_ok,run_underlying hu,if_pos (And.intro aF h1),ij aC,hs,Vf eS (bE a7)]
 ·obtain⟨u,hu,aen⟩:=af;simp[bG.cells] at hu;subst hu;exact⟨u,cN ak,aen⟩
theorem YC{dk dQ:Nat}{x y:Operand}{a b:Bool}(hw:want ops ⟨some d,.binOp .eql dk x y dQ,ty,pos,after,guard⟩ s=some true)(ab:s.look x=some (bl a))(ai:s.look y=some (bl b))(hd:Nat.blt d s.n=true)(hu:P.underlying dk=some .bool)(h:bm P ops K rest (s.put (some d) (bl (a==b)))):bm P ops K (⟨some d,.binOp .eql dk x y dQ,ty,pos,after,guard⟩::rest) s :=
 wB hw ab ai rfl rfl (fun W=>rfl) (fun W=>run_eql_bool W dk a b hu) rfl hd h
end
theorem TU{P:Program}{f:FuncId}{args n5:List ag}{r:ag}(h:aP P f args r)(hl:n5.all ag.aY=true)(al:n5.length=args.length)(hle:∀(i:Nat) x y,n5[i]?=some x→args[i]?=some y→x.aU y):aP P f n5 r :=
 ⟨fun x ab=>ag.c9 (b6.1 hl x ab),h.cq,fun U W vs cM=>h.call U W vs ⟨by rw[←al];exact cM.1,fun i y v ai hv=>by
  have hi:i<n5.length:=by rw[al];exact(bt.1 ai).1
  exact hle i _ y (bE hi) ai U id W v (cM.2 i _ v (bE hi) hv)⟩⟩
abbrev MO:ag:=aQ (.slice none 0 0)
theorem nil_le(z:Nat):MO.aU (cE z 0 []):=fun U ad W v h=>by
 obtain⟨rfl,_⟩:=h;exact⟨⟨none,0,rfl,cF _,by simp,fun h=>absurd h (Nat.lt_irrefl _)⟩,fun b ⟨c,a,q,aA,_⟩=>absurd aA (Nat.lt_irrefl _)⟩
end Go.Proofs.YtklpfooafbjnpaaGreat
namespace Go.Proofs.YtklpfooafbjnpaaGreat
open Go.RowKit
end Go.Proofs.YtklpfooafbjnpaaGreat
namespace Go.Proofs.YtklpfooafbjnpaaGreat
open Go.RowKit
end Go.Proofs.YtklpfooafbjnpaaGreat
namespace Go.Proofs.YtklpfooafbjnpaaGreat
open Go.RowKit
theorem ajG(j:Nat):(0:Int)<2^j∧(2:Int)^j<10000^(j+1):=by
 induction j with
 | zero=>decide
 | succ j bY=>rw[Int.pow_succ,Int.pow_succ (10000:Int) (j+1)];omega
end Go.Proofs.YtklpfooafbjnpaaGreat
namespace Go.Proofs
open Go.Shelf
def Tryz.aga:Go.Shelf.Ren:=⟨fun|134=>339|129=>334|n=>n,fun|53=>178|3=>3|4=>4|46=>288|5=>5|9=>9|n=>n,fun|n=>n⟩
theorem Tryz.af9:Go.Proofs.Lays.n134 ah Tryz.aga:={
 mixed:=by kernel_rfl
 f129:=Tryz.func334.trans (congrArg some (by kernel_rfl))
 f134:=Tryz.func339.trans (congrArg some (by kernel_rfl))
 t3:=Tryz.underlying3
 a3:=Tryz.isAgg3
 z3:=Tryz.sizeOf3
 v3:=Tryz.zeroValue3
 t4:=Tryz.underlying4
 a4:=Tryz.isAgg4
 z4:=Tryz.sizeOf4
 v4:=Tryz.zeroValue4
 t5:=Tryz.underlying5
 a5:=Tryz.isAgg5
 z5:=Tryz.sizeOf5
 v5:=Tryz.zeroValue5
 t9:=Tryz.underlying9
 a9:=Tryz.isAgg9
 z9:=Tryz.sizeOf9
 v9:=Tryz.zeroValue9
 t46:=Tryz.underlying288
 a46:=Tryz.isAgg288
 z46:=Tryz.sizeOf288
 v46:=Tryz.zeroValue288
 t53:=Tryz.underlying178
 a53:=Tryz.isAgg178
 z53:=Tryz.sizeOf178
 v53:=Tryz.zeroValue178}
theorem Tryz.bits_LeadingZeros64(x:Int)(w:World)(aF:0≤x)(h1:x≤18446744073709551615) :
  Calls ah 339 #[.int .u64 x] w fun e w'=>e = .returned (.int .i64 (64-(Lib.bitLen x.toNat:Int)))∧w'=w:=Any.bits_LeadingZeros64 Tryz.af9 x w aF h1
def Tryz.af8:Go.Shelf.Ren:=⟨fun|129=>334|n=>n,fun|53=>178|3=>3|4=>4|46=>288|5=>5|9=>9|n=>n,fun|n=>n⟩
theorem Tryz.af7:Go.Proofs.Lays.n129 ah Tryz.af8:={
 mixed:=by kernel_rfl
 f129:=Tryz.func334.trans (congrArg some (by kernel_rfl))
 t3:=Tryz.underlying3
 a3:=Tryz.isAgg3
 z3:=Tryz.sizeOf3
 v3:=Tryz.zeroValue3
 t4:=Tryz.underlying4
 a4:=Tryz.isAgg4
 z4:=Tryz.sizeOf4
 v4:=Tryz.zeroValue4
 t5:=Tryz.underlying5
 a5:=Tryz.isAgg5
 z5:=Tryz.sizeOf5
 v5:=Tryz.zeroValue5
 t9:=Tryz.underlying9
 a9:=Tryz.isAgg9
 z9:=Tryz.sizeOf9
 v9:=Tryz.zeroValue9
 t46:=Tryz.underlying288
 a46:=Tryz.isAgg288
 z46:=Tryz.sizeOf288
 v46:=Tryz.zeroValue288
 t53:=Tryz.underlying178
 a53:=Tryz.isAgg178
 z53:=Tryz.sizeOf178
 v53:=Tryz.zeroValue178}
theorem Tryz.bits_Len64(x:Int)(w:World)(aF:0≤x)(h1:x≤18446744073709551615) :
  Calls ah 334 #[.int .u64 x] w fun e w'=>e = .returned (.int .i64 (Lib.bitLen x.toNat))∧w'=w:=Any.bits_Len64 Tryz.af7 x w aF h1
def Tryz.agc:Go.Shelf.Ren:=⟨fun|264=>292|n=>n,fun|53=>178|46=>288|n=>n,fun|n=>n⟩
theorem Tryz.agb:Go.Proofs.Lays.n264 ah Tryz.agc:={
 mixed:=by kernel_rfl
 f264:=Tryz.func292.trans (congrArg some (by kernel_rfl))
 t46:=Tryz.underlying288
 a46:=Tryz.isAgg288
 z46:=Tryz.sizeOf288
 v46:=Tryz.zeroValue288
 t53:=Tryz.underlying178
 a53:=Tryz.isAgg178
 z53:=Tryz.sizeOf178
 v53:=Tryz.zeroValue178}
open Go.RowKit Go.Lib in
theorem Tryz.bits_Mul64(x y:Nat)(ab:x<18446744073709551616)(ai:y<18446744073709551616)(w:World) :
  Calls ah 292 #[.int .u64 x,.int .u64 y] w fun e w'=>e = .returned (.tuple #[.int .u64 ((x*y/18446744073709551616:Nat):Int),.int .u64 ((x*y % 18446744073709551616:Nat):Int)])∧w'=w:=Any.bits_Mul64 Tryz.agb x y ab ai w
end Go.Proofs
