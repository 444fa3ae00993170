import PyProof.Rows.All
import Wide.All
import OpenK.AllK
import Wide.FinOn
import Lean
import PyProof.EqAt
import PyProof.EqKinds
import PyProof.NeKinds
import PyProof.TupleCall
import PyProof.SetRoads
import PyProof.SetNew
import PyProof.Rows.Range3
import KE.KRevSl
import PyProof.SliceStr2
import PyProof.ListStr
import PyProof.TupleOfStr
import PyProof.StrCalls
import KE.KDictOf
import PyProof.AttrMissHeap
import PyProof.Rows.SumAny
import PyProof.ConsumeWalk
import PyProof.SeqI3
import KE.KStar
import PyProof.SumWalkG
import PyProof.DictValues
import PyProof.Rows.SetFrom
import PyProof.ZipIter
import PyProof.Draws
import PyProof.DictIter
import KE.KItemsList
import KE.KPairComp
import KE.KEqDict
import PyProof.Rows.SortWalk
import PySem.Challenge.RW_dearsigns_k17_whole_whatever_tree
set_option Elab.async false
set_option linter.all false
set_option maxRecDepth 100000
set_option maxHeartbeats 4000000
set_option exponentiation.threshold 5000
namespace HD
open PySem PySem.W PySem.Calls PyProof.Rows
noncomputable def zG (P:Params):BT:=.node (boot_o_0 P) (.node (boot_o_1 P) (.node (boot_o_3 P) (.node (boot_o_7 P) .nil .nil) .nil) (.node (boot_o_5 P) (.node (boot_o_9 P) .nil .nil) .nil)) (.node (boot_o_2 P) (.node (boot_o_4 P) (.node (boot_o_8 P) .nil .nil) .nil) (.node (boot_o_6 P) (.node (boot_o_10 P) .nil .nil) .nil))
theorem rD (P:Params):((boot_heap P).isNs mainGlobals,(boot_heap P).objs.size,(boot_heap P).nsMap mainGlobals "__annotations__")=(true,11,some (.ref 6)):=by kernel_rfl
structure SM where
 T:BT
 n:Nat
 k:Nat
 D:List DictEntry
 pl:List Value
 nm:Value
noncomputable def key (P:Params) (x:Str) (t:Nat) (v:Value):DictEntry:=⟨PyData.keyHash P x,.str x t,v⟩
noncomputable def SM.put (s:SM) (o:Obj):SM:={s with T:=s.T.ins s.n o,n:=s.n + 1}
noncomputable def SM.puts (s:SM):List Obj→SM
 | []=>s
 | o :: r=>(s.put o).puts r
noncomputable def tup (vs:List Value):Obj:={cls:=.type "tuple",data:=.seq vs.toArray}
noncomputable def tH:List Str→Nat→List Value
 | [],_=>[]
 | x :: r,t=>.str x t :: tH r (t + 1)
noncomputable def mo:Str:="/claim/cut.py"
structure CO where
 objs:List Obj
 k:Nat
 a:Nat
noncomputable def raw (n:Nat):Value:=.int n 0
noncomputable def iD (n k:Nat) (name qual:Str) (line argc flags:Nat) (fn:Bool) (free:List Str) (pls:List Value) (loc:Option (List Str × List Str)) (tm:Option FuncData):CO:=
 let f:=free.length
 let o1:=[tup (tH free (k + 3)),{cls:=.none,data:=.fields pls.toArray}]
 let k1:=k + 3 + f
 let (o2,k2,n2,l,c):=match loc with
  | none=>([],k1,n + 2,Value.none,Value.none)
  | some (ls,cs)=>([tup (tH ls k1),tup (tH cs (k1 + ls.length))],k1 + ls.length + cs.length,n + 4,Value.ref (n + 2),Value.ref (n + 3))
 let (o3,n3,t):=match tm with
  | none=>([],n2,Value.none)
  | some fd=>([({cls:=.none,data:=.func fd}:Obj)],n2 + 1,Value.ref n2)
 {objs:=o1 ++ o2 ++ o3 ++ [{cls:=.type "code",data:=.fields #[.str name k,.str qual (k + 1),.str mo (k + 2),raw line,raw argc,raw 0,raw 0,raw flags,.ref n,.bool fn,raw 181,.ref (n + 1),.none,l,c,t,raw k2,raw line,.str mo (k2 + 1)]}]
  k:=k2 + 2
  a:=n3}
noncomputable def SM.store (P:Params) (s:SM) (x:Str) (v:Value):SM:=
 match s.D with
 | e :: r=>match Fast.sEq x "__name__" with
  | true=>{s with D:=⟨e.hash,e.key,v⟩ :: r,k:=s.k + 1,nm:=v}
  | false=>{s with D:=e :: r ++ [key P x s.k v],k:=s.k + 1}
 | []=>s
noncomputable def dP:List Expr→Nat→List Value × Nat
 | .Constant (.int i) _ _ :: r,k=>let (vs,k'):=dP r (k + 1); (.int i k :: vs,k')
 | .Constant (.str i) _ _ :: r,k=>let (vs,k'):=dP r (k + 1); (.str i k :: vs,k')
 | .Constant (.bool b) _ _ :: r,k=>let (vs,k'):=dP r k; (.bool b :: vs,k')
 | _ :: r,k=>let (vs,k'):=dP r k; (.none :: vs,k')
 | [],k=>([],k)
noncomputable def qt (name qual:Str) (args:Arguments) (body:List Stmt) (scope:Scope):FuncData:=
 {name,qualname:=qual,params:=args,body:=.stmts body,scope,globals:=builtinsNs,closure:=[],defaults:=.none,kwdefaults:=.none}
noncomputable def zH (P:Params) (s:SM) (name:Str) (args:Arguments) (body:List Stmt) (scope:Scope) (pos:Pos):SM:=
 let (dv,s):=match args.defaults with
  | []=>(Value.none,s)
  | d :: ds=>let (vs,k'):=dP (d :: ds) s.k; (Value.ref s.n,({s with k:=k'}:SM).put (tup vs))
 let c:=iD s.n s.k name name pos.line args.args.length 3 true [] [] (localNames args scope (.stmts body)) (some (qt name name args body scope))
 let s1:=s.puts c.objs
 let s2:SM:={s1 with k:=c.k,pl:=s1.pl ++ [raw pos.line,raw pos.col,.ref c.a]}
 let f:=s2.n
 let s3:=s2.put {cls:=.type "function",data:=.func {qt name name args body scope with globals:=mainNs,defaults:=dv,pyModule:=s.nm,code:=.ref c.a}}
 s3.store P name (.ref f)
noncomputable def tI (x:Str):List DictEntry→Value
 | []=>.none
 | e :: r=>match e.key with
  | .str y _=>match Fast.sEq x y with
   | true=>e.val
   | false=>tI x r
  | _=>tI x r
noncomputable def yn (v:Value) (o:Obj):Obj:=match o.data with
 | .cls c=>{o with data:=.cls {c with subclasses:=c.subclasses ++ [v]}}
 | _=>o
structure IOb where
 objs:List Obj
 pls:List Value
 es:List DictEntry
 k:Nat
noncomputable def vQ (P:Params) (cell n k:Nat) (cn:Str) (nm:Value):List Stmt→IOb
 | .FunctionDef name args body _ _ _ scope _ _ pos :: _=>
  let qual:Str:=cn ++ "." ++ name
  let c:=iD (n + 1) k name qual pos.line args.args.length 3 true ["__class__"] [] (localNames args scope (.stmts body)) (some (qt name qual args body scope))
  let f:=c.a + 1
  {objs:=tup [.ref cell] :: c.objs ++ [{cls:=.type "function",data:=.func {qt name qual args body scope with globals:=mainNs,closure:=[("__class__",cell)],pyModule:=nm,code:=.ref c.a,closureTuple:=.ref n}}]
   pls:=[raw pos.line,raw pos.col,.ref c.a]
   es:=[key P name c.k (.ref f)]
   k:=c.k + 1}
 | _=>⟨[],[],[],k⟩
noncomputable def nJ:List Value:=[.type "ValueError",.type "Exception",.type "BaseException",.type "object"]
noncomputable def yo (P:Params) (s:SM) (name base:Str) (body:List Stmt) (statics:List Str) (pos:Pos):SM:=
  let root:=Fast.sEq base "ValueError"
  let bv:Value:=match root with | true=>.type "ValueError" | false=>tI base s.D
  let own:=match body with | .FunctionDef .. :: _=>true | _=>false
  let (n,k):=(s.n,s.k)
  let nsA:=n + 2
  let c0:=match own with | true=>n + 4 | false=>n + 3
  let fr:=c0 + 3
  let i:=vQ P (n + 3) (fr + 1) (k + 12) name s.nm body
  let cc:=iD c0 (k + 2) name name pos.line 0 0 false [] i.pls none none
  let a:=fr + 1 + i.objs.length
  let st:=i.k + statics.length
  let ns2:=a + 1
  let cls:=a + 2
  let e1:=key P "__module__" (k + 7) s.nm
  let e3:=key P "__firstlineno__" (k + 11) (.int pos.line (k + 10))
  let e5:=key P "__static_attributes__" st (.ref a)
  let (k5,cellE,cellO):=match own with
    | true=>(st + 2,[key P "__classcell__" (st + 1) (.ref (n + 3))],[({cls:=.type "cell",data:=.cell (some (.ref cls))}:Obj)])
    | false=>(st + 1,[],[])
  let (k6,weakE,weakO):=match root with
    | true=>(k5 + 2,[key P "__weakref__" (k5 + 1) (.ref (cls + 1))],[({cls:=.type "getset_descriptor",data:=.fields #[.str "__weakref__" k5,.ref cls,.builtin "ExceptionGroup.__weakref__",.none]}:Obj)])
    | false=>(k5,[],[])
  let nsE:=[e1,key P "__qualname__" (k + 9) (.str name (k + 8)),e3] ++ i.es ++ [e5] ++ cellE
  let ns2E:=[e1,e3] ++ i.es ++ [e5] ++ weakE ++ [key P "__doc__" k6 .none]
  let mro:=match root with | true=>Value.ref cls :: nJ | false=>Value.ref cls :: bv :: nJ
  let objs:List Obj:=[tup [bv],{cls:=.type "builtin_function_or_method",data:=.fields #[.builtin "type.__prepare__",.type "type"]},{cls:=.type "dict",data:=.dict nsE.toArray nsE.length}] ++ cellO ++ cc.objs ++
    [{cls:=.type "frame",slots:=#[some (.ref (c0 + 2)),some (.ref mainNs),some (.ref nsA),none,some s.nm,none,some (.ref builtinsNs)]}] ++ i.objs ++
    [tup (tH statics i.k),{cls:=.type "dict",data:=.dict ns2E.toArray (ns2E.length - 2)},
     {cls:=.type "type",data:=.cls {name,bases:=[bv],mro,ns:=ns2,qualname:=name},slots:=#[some (.ref n),none,some (.str name k),some (.str name (k + 8)),some (.builtin "ValueError.__new__"),some (.bool true)]}] ++ weakO ++
    [{cls:=.type "super",data:=.fields #[.ref cls,.ref cls,.ref cls]},{cls:=.type "builtin_function_or_method",data:=.fields #[.builtin "object.__init_subclass__",.ref cls]}]
  let s1:=s.puts objs
  let s2:SM:={s1 with k:=k6 + 2,pl:=s1.pl ++ [raw pos.line,raw pos.col,.ref (c0 + 2)],T:=match bv with | .ref b=>s1.T.set b (yn (.ref cls)) | _=>s1.T}
  s2.store P name (.ref cls)
noncomputable def yp (P:Params) (s:SM):Stmt→SM
 | .Assign (.Name x _ :: _) (.Constant (.str v) _ _) _=>({s with k:=s.k + 1}:SM).store P x (.str v s.k)
 | .Assign (.Name x _ :: _) (.Constant (.int v) _ _) _=>({s with k:=s.k + 1}:SM).store P x (.int v s.k)
 | .Assign (.Name x _ :: _) (.BinOp (.Constant (.int a) _ _) _ (.Constant (.int b) _ _) _) _=>({s with k:=s.k + 3}:SM).store P x (.int (a ^ b.toNat) (s.k + 2))
 | .Assign (.Name x _ :: _) (.Tuple es _ _) _=>let (vs,k'):=dP es s.k; (({s with k:=k'}:SM).put (tup vs)).store P x (.ref s.n)
 | .FunctionDef name args body _ _ _ scope _ _ pos=>zH P s name args body scope pos
 | .ClassDef name (.Name b _ :: _) _ body _ _ _ _ _ statics pos=>yo P s name b body statics pos
 | _=>s
noncomputable def tJ (P:Params) (s:SM):List Stmt→SM
 | []=>s
 | x :: r=>tJ P (yp P s x) r
noncomputable def yq (p:Pos):Stmt→Pos
 | .Assign (.Name _ q :: _) _ _=>q
 | .FunctionDef _ _ _ _ _ _ _ _ _ q=>q
 | .ClassDef _ _ _ _ _ _ _ _ _ _ q=>q
 | _=>p
noncomputable def nK (p:Pos):List Stmt→Pos
 | []=>p
 | x :: r=>nK (yq p x) r
noncomputable def AI (P:Params):SM:=
 SM.puts ⟨zG P,11,187,[key P "__name__" 165 (.str "__main__" 164),key P "__doc__" 166 .none,key P "__package__" 167 .none,key P "__loader__" 168 (.builtin "__main__.__loader__#opaque"),key P "__spec__" 169 .none,key P "__annotations__" 170 (.ref 6),
  key P "__builtins__" 171 (.ref 4),key P "__file__" 173 (.str mo 172),key P "__cached__" 174 .none],[],.str "__main__" 164⟩
  ((iD 11 182 "<module>" "<module>" 1 0 0 false [] [] none none).objs ++ [{cls:=.type "frame",slots:=#[some (.ref 13),some (.ref mainNs),some (.ref mainNs),none,some (.str "__main__" 164),none,some (.ref builtinsNs)]}])
structure St where
 sim:Params→SM
 pos:Pos
noncomputable def SM.tree (s:SM):BT:=(s.T.set mainNs fun _=>{cls:=.type "dict",data:=.dict s.D.toArray s.D.length}).set 12 fun _=>{cls:=.none,data:=.fields s.pl.toArray}
noncomputable def St.at (S:St) (P:Params) (os:OsState):SharedT:=⟨(S.sim P).tree,(S.sim P).n,{},Array.mk [],boot_drawn,(S.sim P).k,os⟩
noncomputable def St.step (S:St) (l:List Stmt):St:=⟨fun P=>tJ P (S.sim P) l,nK S.pos l⟩
noncomputable def St0:St:=⟨AI,⟨0,0,0,0⟩⟩
abbrev pD:Pos:=⟨0,0,0,0⟩
noncomputable def envOf (p:Program):Env:={scope:=p.main.scope,locals:=mainNs,globals:=mainNs,cells:=[],code:=.ref 13,frame:=some 14}
noncomputable def cOf (p:Program):Code:=.body (behindTheImports p) (envOf p)
abbrev vR:Option Value:=some (.ref 6)
abbrev jK (p:Program) (l:List Stmt) (m:Nat) (A B:St):Prop:=
 ∀w:World,(fun os=>segRunT treeTable p w 11 vR 1 m (A.at w.params os) (piecesOf l (envOf p) (cOf p) A.pos [topFrame pD]))=fun os=>some (.next,B.at w.params os,cOf p,B.pos)
inductive Chain (p:Program):List Stmt→Nat→St→St→Prop
 | nil (S:St):Chain p [] 0 S S
 | cons {l r:List Stmt} {m n:Nat} {A B C:St} (h:jK p l m A B) (t:Chain p r n B C):Chain p (l ++ r) (m + n) A C
theorem vS {tb:String→Option Builtin} {p:Program} {w:World} {n₀:Nat} {ann:Option Value} {c:Code} {pos q:Pos} (s:Shared):topRun tb p w n₀ ann 2 s ⟨doneF .next,c,pos,[topFrame q]⟩=some s:=by
 obtain ⟨a,b,d,e,f⟩:=s;rfl
theorem rE {p:Program} {w:World} {os:OsState} {b:List Stmt} {n:Nat} {A C:St} (h:Chain p b n A C) :
  topRun treeTable p w 11 vR (n + 2) (A.at w.params os).abs (restOf b (envOf p) (cOf p) A.pos [topFrame pD])=some (C.at w.params os).abs:=by
 induction h with
 | nil S=>exact piece_nil (vS _)
 | cons h _ ih=>
  have e:=segRun_of (congrFun (h w) os);rw [Nat.add_assoc];exact piece_app e ih
abbrev Pre (p:Program):Prop:=∀w:World,(fun os=>topGo treeTable p w 11 vR 12 ⟨boot_heap w.params,Array.mk [],boot_drawn,boot_toks,os⟩ (topStub p))=fun os=>some ((St0.at w.params os).abs,⟨denote treeTable (cOf p),cOf p,pD,[topFrame pD]⟩)
abbrev Blk (p:Program):Prop:=∀(w:World) (hp:Heap) (gs:Array GenState) (d:Drawn) (k:Nat) (os:OsState),
 segRun treeTable p w 11 vR 1 1 ⟨hp,gs,d,k,os⟩ (blockOf (behindTheImports p) (envOf p) (cOf p) pD [topFrame pD])=some (.next,⟨hp,gs,d,k,os⟩,cOf p,pD)
abbrev tK (p:Program) (C:St):Prop:=∀w:World,(fun os=>staticsOk (importedModules p.main.body) (boot_heap w.params) (C.at w.params os).abs.heap && namesBound p (C.at w.params os).abs.heap && gensDone (C.at w.params os).abs && laidKept (boot_heap w.params) (C.at w.params os).abs.heap)=fun _=>true
theorem tL {p q:Program} {loose:List Str} {Xt:Shared→Bool} {α:Type} {Yf:Shared→α} {Ya:World→α} {N n:Nat} {g0:Bool} {b:List Stmt} {C:St}
  (e:opening p=plainProg p.main.scope.names) (hN:Nat.ble 600 N=true) (f:∀s,fenceModules? p s=some s)
  (pre:Pre p) (blk:Blk p) (hb:behindTheImports p=b) (ch:Chain p b n St0 C) (le:Nat.ble (12 + (1 + (n + 2))) N=true)
  (k1:tK p C) (k2:∀w:World,(fun os=>openSeen q loose (importedModules p.main.body) Xt g0 (C.at w.params os).abs)=fun _=>openGood q loose) (k3:∀w:World,(fun os=>Yf (C.at w.params os).abs)=fun _=>Ya w) :
  LeftO p q loose Xt Yf Ya N g0:=fun w=>by
 obtain ⟨⟨hp,gs,d,k,os⟩,a,a'⟩:=Option.map_eq_some_iff.mp (boot_open e hN f w);obtain ⟨rfl,rfl,rfl,rfl⟩:hp=boot_heap w.params∧gs = #[]∧d=boot_drawn∧k=boot_toks:=by simpa using a'
 obtain ⟨z1,z2,z3⟩:_∧_∧_:=by simpa only [Prod.mk.injEq] using rD w.params
 have r1:=rE (w:=w) (os:=os) ch;rw [← hb] at r1;have r2:=piece_block (blk w _ _ _ _ _) r1;have r3:=go_top (congrFun (pre w) os) r2;have r':=topRun_mono (N - (12 + (1 + (n + 2)))) _ _ _ _ r3;rw [show 12 + (1 + (n + 2)) + (N - (12 + (1 + (n + 2))))=N by have:=Nat.le_of_ble_eq_true le; omega] at r';have l1:=congrFun (k1 w) os;have t:topFrom treeTable p w N ⟨boot_heap w.params,#[],boot_drawn,boot_toks,os⟩=some (C.at w.params os).abs:=by
  unfold topFrom;dsimp only;rw [z1,z2,z3,r'];show (match staticsOk (importedModules p.main.body) (boot_heap w.params) (C.at w.params os).abs.heap && namesBound p (C.at w.params os).abs.heap && gensDone (C.at w.params os).abs && laidKept (boot_heap w.params) (C.at w.params os).abs.heap with | true=>_ | false=>_)=_;rw [l1]
 unfold openEnds;rw [a];show (topFrom treeTable p w N _).map _=_;rw [t];exact congrArg some (Prod.ext (congrFun (k2 w) os) (congrFun (k3 w) os))
end HD
namespace HP
open PySem PySem.W HD
noncomputable def pq:Program:=PySem.Challenge.pw_dearsigns_k17_whole_whatever_tree
theorem e1:opening pq=plainProg pq.main.scope.names:=by kernel_rfl
theorem e2 (s):fenceModules? pq s=some s:=by kernel_rfl
theorem pre:Pre pq:=fun w=>by kernel_rfl
theorem blk:Blk pq:=fun w _ _ _ _ _=>by kernel_rfl
noncomputable def b0:List Stmt:=behindTheImports pq
noncomputable def S0:St:=St0
noncomputable def l0:List Stmt:=b0.take 5
noncomputable def b1:List Stmt:=b0.drop 5
noncomputable def S1:St:=S0.step l0
theorem q0:jK pq l0 835 S0 S1:=fun w=>by kernel_rfl
noncomputable def l1:List Stmt:=b1.take 4
noncomputable def b2:List Stmt:=b1.drop 4
noncomputable def S2:St:=S1.step l1
theorem q1:jK pq l1 853 S1 S2:=fun w=>by kernel_rfl
noncomputable def l2:List Stmt:=b2.take 4
noncomputable def b3:List Stmt:=b2.drop 4
noncomputable def S3:St:=S2.step l2
theorem q2:jK pq l2 949 S2 S3:=fun w=>by kernel_rfl
noncomputable def l3:List Stmt:=b3.take 12
noncomputable def b4:List Stmt:=b3.drop 12
noncomputable def S4:St:=S3.step l3
theorem q3:jK pq l3 989 S3 S4:=fun w=>by kernel_rfl
noncomputable def l4:List Stmt:=b4.take 38
noncomputable def b5:List Stmt:=b4.drop 38
noncomputable def S5:St:=S4.step l4
theorem q4:jK pq l4 983 S4 S5:=fun w=>by kernel_rfl
noncomputable def l5:List Stmt:=b5.take 10
noncomputable def S6:St:=S5.step l5
theorem q5:jK pq l5 297 S5 S6:=fun w=>by kernel_rfl
theorem zI:Chain pq (l0 ++ (l1 ++ (l2 ++ (l3 ++ (l4 ++ (l5 ++ [])))))) (835 + (853 + (949 + (989 + (983 + (297 + (0))))))) S0 S6:=.cons q0 (.cons q1 (.cons q2 (.cons q3 (.cons q4 (.cons q5 (Chain.nil S6))))))
theorem body:behindTheImports pq=l0 ++ (l1 ++ (l2 ++ (l3 ++ (l4 ++ (l5 ++ []))))):=by kernel_rfl
theorem zJ:tK pq S6:=fun w=>by kernel_rfl
end HP
namespace HD
open PySem PySem.W PySem.Calls PyProof.Rows
noncomputable def vT (T:BT) (n a:Nat):Option Obj:=match Nat.blt a n with
 | true=>alive ((T.get a).getD default)
 | false=>none
theorem vU (T:BT) (n:Nat) (life:Life) (a:Nat):(absHeap T n life).get? a=vT T n a:=by
 unfold vT Heap.get?;rw [absHeap_at]
 by_cases h:a < n
 ·have e:Nat.blt a n=true:=by rw [Nat.blt_eq]; exact h
  rw [if_pos h,e];cases (T.get a).getD default with
  | mk c d dt sl=>cases dt <;> rfl
 ·have e:Nat.blt a n=false:=by
   cases q:Nat.blt a n with
   | false=>rfl
   | true=>rw [Nat.blt_eq] at q; exact absurd q h
  rw [if_neg h,e]
theorem rF {p q:Program} {loose:List Str} {Xt:Shared→Bool} {as:List Addr} {Ya:World→List (Option Obj) × Nat × Nat} {N n:Nat} {g0:Bool} {b:List Stmt} {C:St}
  (e:opening p=plainProg p.main.scope.names) (hN:Nat.ble 600 N=true) (f:∀s,fenceModules? p s=some s)
  (pre:Pre p) (blk:Blk p) (hb:behindTheImports p=b) (ch:Chain p b n St0 C) (le:Nat.ble (12 + (1 + (n + 2))) N=true)
  (k1:tK p C) (k2:∀w:World,(fun os=>openSeen q loose (importedModules p.main.body) Xt g0 (C.at w.params os).abs)=fun _=>openGood q loose)
  (k3:∀w:World,(as.map (vT (C.sim w.params).tree (C.sim w.params).n),(C.sim w.params).n,(C.sim w.params).k)=Ya w) :
  LeftO p q loose Xt (X.obsZ as) Ya N g0:=by
 refine tL e hN f pre blk hb ch le k1 k2 fun w=>funext fun os=>?_;rw [← k3 w];have e1:as.map (C.at w.params os).abs.heap.get? = as.map (vT (C.sim w.params).tree (C.sim w.params).n):=by
  congr 1
  funext a
  exact vU _ _ _ a
 have e2:(C.at w.params os).abs.heap.objs.size=(C.sim w.params).n:=absHeap_size _ _ _;unfold X.obsZ;rw [e1,e2];rfl
end HD
namespace L2
open PySem PySem.Spec PyProof.Rows
abbrev Key:=Sum Int Str
def kM:Key→Value→Bool
 | .inl k,v=>Value.isInt k v
 | .inr x,v=>Value.isStrOf x v
def AJ (w:World):Key→Int
 | .inl k=>hashInt k
 | .inr x=>hashStr w x
theorem cf:∀{k:Key} {v:Value},kM k v=true→(∃i t,k=Sum.inl i∧v=Value.int i t)∨(∃x t,k=Sum.inr x∧v=Value.str x t)
 | .inl i,v,h=>by
  obtain ⟨t,e⟩:=Value.isInt_shape (k:=i) (v:=v) h;exact .inl ⟨i,t,rfl,e⟩
 | .inr x,v,h=>by
  obtain ⟨t,e⟩:=Value.isStrOf_shape (x:=x) (v:=v) h;exact .inr ⟨x,t,rfl,e⟩
theorem rH (i:Int) (t:Tok):kM (.inl i) (.int i t)=true:=by simp [kM,Value.isInt]
theorem rJ (x:Str) (t:Tok):kM (.inr x) (.str x t)=true:=by simp [kM,Value.isStrOf]
theorem yr (a b:Int):decide ((Sum.inl a:Key)=Sum.inl b)=(a == b):=by
 by_cases e:a=b
 ·subst e; simp
 ·have h:¬(Sum.inl a:Key)=Sum.inl b:=fun q=>e (Sum.inl.inj q);rw [decide_eq_false h];exact (beq_eq_false_iff_ne.mpr e).symm
theorem yt (a b:Str):decide ((Sum.inr a:Key)=Sum.inr b)=decide (a=b):=by
 by_cases e:a=b
 ·subst e; simp
 ·have h:¬(Sum.inr a:Key)=Sum.inr b:=fun q=>e (Sum.inr.inj q);rw [decide_eq_false h,decide_eq_false e]
theorem yu (a:Int) (b:Str):decide ((Sum.inl a:Key)=Sum.inr b)=false:=decide_eq_false (fun q=>nomatch q)
theorem yv (a:Str) (b:Int):decide ((Sum.inr a:Key)=Sum.inl b)=false:=decide_eq_false (fun q=>nomatch q)
def bu (prog:Program) (w:World):PySem.KeyKind prog w Key where
 is:=kM
 hash:=AJ w
 inj:=fun v a b ha hb=>by
  rcases cf ha with ⟨i,t,rfl,rfl⟩ | ⟨x,t,rfl,rfl⟩
  ·rcases cf hb with ⟨j,u,rfl,e⟩ | ⟨y,u,rfl,e⟩
   ·injection e with e1 _; rw [e1]
   ·exact nomatch e
  ·rcases cf hb with ⟨j,u,rfl,e⟩ | ⟨y,u,rfl,e⟩
   ·exact nomatch e
   ·injection e with e1 _; rw [e1]
 byValue:=fun k v h=>by
  rcases cf h with ⟨i,t,rfl,rfl⟩ | ⟨x,t,rfl,rfl⟩ <;> rfl
 pyHash:=fun hv h=>by
  rcases cf hv with ⟨i,t,rfl,rfl⟩ | ⟨x,t,rfl,rfl⟩
  ·exact wpAny_pyHash_int h
  ·exact wpAny_pyHash_str h
 eqBool:=fun hu hv h=>by
  rcases cf hu with ⟨i,t,rfl,rfl⟩ | ⟨x,t,rfl,rfl⟩
  ·rcases cf hv with ⟨j,u,rfl,rfl⟩ | ⟨y,u,rfl,rfl⟩
   ·rw [yr] at h; exact wpAny_eqBool_int h
   ·rw [yu] at h; exact SeqAt.EqAt.int_str i t y u _ _ _ _ h
  ·rcases cf hv with ⟨j,u,rfl,rfl⟩ | ⟨y,u,rfl,rfl⟩
   ·rw [yv] at h; exact SeqAt.EqAt.str_int x t j u _ _ _ _ h
   ·rw [yt] at h; exact wpAny_eqBool_str h
 «strs»:=fun k x t v h=>by
  rcases cf h with ⟨i,u,rfl,e⟩ | ⟨y,u,rfl,e⟩
  ·exact nomatch e
  ·injection e with e1 _;subst e1;cases v <;> rfl
theorem nM (prog:Program) (w:World) (i:Int) (t:Tok):(bu prog w).is (.inl i) (.int i t)=true:=rH i t
theorem gw (prog:Program) (w:World) (x:Str) (t:Tok):(bu prog w).is (.inr x) (.str x t)=true:=rJ x t
inductive V where
 | non | bl (b:Bool) | int (i:Int) | str (x:Str) | byt (b:Array UInt8) | flt (b:UInt64) | ref (a:Addr) | ty (n:String)
 deriving DecidableEq
def RelV:V→Value→Prop
 | .non,u=>u=Value.none
 | .bl b,u=>u=Value.bool b
 | .int i,u=>∃t,u=Value.int i t
 | .str x,u=>∃t,u=Value.str x t
 | .byt b,u=>∃t,u=Value.bytes b t
 | .flt b,u=>∃t,u=Value.float b t
 | .ref a,u=>u=Value.ref a
 | .ty n,u=>u=Value.type n
abbrev Vals:List V→List Value→Prop:=Paired RelV
theorem Vals.length {xs:List V} {us:List Value} (r:Vals xs us):xs.length=us.length:=Paired.length r
theorem Vals.get:∀{xs:List V} {us:List Value} {i:Nat} {x:V},Vals xs us→xs[i]? = some x→∃u,us[i]? = some u∧RelV x u
 | _,_,_,_,.nil,e=>by simp at e
 | _,_,0,_,.cons r _,e=>by simp at e; subst e; exact ⟨_,rfl,r⟩
 | _,_,i + 1,x,.cons _ t,e=>by
  obtain ⟨u,h1,h2⟩:=Vals.get (i:=i) (x:=x) t (by simpa using e);exact ⟨u,by simpa using h1,h2⟩
theorem Vals.set {x:V} {u:Value} (r:RelV x u):∀{xs:List V} {us:List Value} (i:Nat),Vals xs us→Vals (xs.set i x) (us.set i u)
 | _,_,_,.nil=>.nil
 | _,_,0,.cons _ t=>.cons r t
 | _,_,i + 1,.cons q t=>.cons q (Vals.set r i t)
theorem Vals.append:∀{xs ys:List V} {us ws:List Value},Vals xs us→Vals ys ws→Vals (xs ++ ys) (us ++ ws)
 | _,_,_,_,.nil,s=>s
 | _,_,_,_,.cons r t,s=>.cons r (Vals.append t s)
theorem Vals.take:∀{xs:List V} {us:List Value} (n:Nat),Vals xs us→Vals (xs.take n) (us.take n)
 | _,_,0,_=>.nil
 | _,_,_ + 1,.nil=>.nil
 | _,_,n + 1,.cons r t=>.cons r (Vals.take n t)
theorem Vals.drop:∀{xs:List V} {us:List Value} (n:Nat),Vals xs us→Vals (xs.drop n) (us.drop n)
 | _,_,0,r=>r
 | _,_,_ + 1,.nil=>.nil
 | _,_,n + 1,.cons _ t=>Vals.drop n t
def RelO:Option V→Option Value→Prop
 | some v,some u=>RelV v u
 | none,none=>True
 | _,_=>False
def KV {κ:Type}:List (κ × V)→List (κ × Value)→Prop:=Paired fun (p:κ × V) (q:κ × Value)=>p.1=q.1∧RelV p.2 q.2
def kV:Key→V
 | .inl i=>.int i
 | .inr x=>.str x
inductive HO where
  | lst (xs:List V)
  | tup (xs:List V)
  | dK (kvs:List (Key × V)) | dT (kvs:List (List Key × V))
  | set (S:Int→Bool) (n:Nat)
  | ins (C dx:Addr) (fs:List (Str × V))
  | own (x:Addr)
  | xd (fs:List (Str × V))
  | met (f x:Addr)
  | rng (lo hi:Int)
  | frz (o:Obj) (u:HO)
  | tbl (ps:Array Value)
  | ext (φ:Heap→Prop)
abbrev Hp:=Addr→Option HO
def upd (H:Hp) (a:Addr) (o:HO):Hp:=fun b=>if b=a then some o else H b
theorem ai {H:Hp} {a:Addr} {o:HO}:upd H a o a=some o:=by unfold upd; rw [if_pos rfl]
theorem am {H:Hp} {a b:Addr} {o:HO} (h:b≠a):upd H a o b=H b:=by unfold upd; rw [if_neg h]
theorem zK {H:Hp} {a b:Addr} {o u:HO} (h:H a=some o) (h':H b=some u) (d:o≠u):a≠b:=by
 intro e; subst e; rw [h] at h'; exact d (Option.some.inj h')
theorem ak {H:Hp} {a b:Addr} {o:HO} (h:H a=some o) (h':H b=none):a≠b:=by
 intro e; subst e; rw [h] at h'; cases h'
section
variable (P:Program) (w:World)
def ObjOk (H:Hp) (h:Heap) (a:Addr):HO→Prop
 | .lst xs=>xs.length≤sizeLine∧∃(its:List Value) (n:Nat),Vals xs its∧h.get? a=some {cls:=.type "list",data:=.seq its.toArray n}
 | .tup xs=>xs.length≤sizeLine∧∃its:List Value,Vals xs its∧IsTup h a its.toArray
 | .dK kvs=>kvs.length≤sizeLine∧(a == sysModules)=false∧∃vs,KV kvs vs∧h.DictOf (bu P w) a vs
 | .dT kvs=>kvs.length≤sizeLine∧(a == sysModules)=false∧∃xs:List (List Key × Addr × Value),
   Paired (fun (p:List Key × V) (q:List Key × Addr × Value)=>p.1=q.1∧H q.2.1=some (.tup (p.1.map kV))∧RelV p.2 q.2.2) kvs xs∧
   ∃o es ep,h.get? a=some o∧o.ExactDict∧o.data = .dict es ep∧es.toList=xs.map (entryOfKey (tupleKind (bu P w)))∧(xs.map (·.1)).Nodup
 | .set S n=>h.SetOf (intKind P w) a S n
 | .ins C dx fs=>H dx=some (.own a)∧fs.length≤1000∧dx≠a∧h.get? a=some (PySem.W.instObj C dx)∧
   ∃mA,h.Ns1 dx mA∧(∀f,RelO (fs.lookup f) (mA f))∧PySem.Within mA (fs.map (·.1))
 | .own _=>∃o,h.get? a=some o
 | .xd fs=>∃mA,h.Ns1 a mA∧∀f,RelO (fs.lookup f) (mA f)
 | .rng lo hi=>∃t u v,h.get? a=some {cls:=.type "range",data:=.fields #[.int lo t,.int hi u,.int 1 v]}
 | .frz o u=>h.get? a=some o∧ObjOk H h a u
 | .tbl ps=>h.get? a=some {cls:=.none,data:=.fields ps}
 | .met f x=>h.get? a=some (PySem.W.methodObj (.ref f) (.ref x))
 | .ext φ=>φ h∧(∃o,h.get? a=some o)∧∀h1 h2:Heap,φ h1→(∀o,h1.get? a=some o→h2.get? a=some o)→φ h2
def HOk (H:Hp) (h:Heap):Prop:=∀a o,H a=some o→ObjOk P w H h a o
end
section
variable {P:Program} {w:World} {H H':Hp} {h h':Heap} {a:Addr} {o:HO}
theorem ObjOk.lt (x:ObjOk P w H h a o):a < h.objs.size:=by
 cases o with
 | lst xs=>obtain ⟨_,_,_,_,e⟩:=x; exact Heap.lt_size e
 | tup xs=>obtain ⟨_,_,_,p⟩:=x; exact p.lt
 | dK kvs=>obtain ⟨_,_,_,_,o,_,_,e,_⟩:=x; exact Heap.lt_size e
 | dT kvs=>obtain ⟨_,_,_,_,o,_,_,e,_⟩:=x; exact Heap.lt_size e
 | set S n=>obtain ⟨o,_,_,_,e,_⟩:=x; exact Heap.lt_size e
 | ins C dx fs=>obtain ⟨_,_,_,e,_⟩:=x; exact Heap.lt_size e
 | own y=>obtain ⟨_,e⟩:=x; exact Heap.lt_size e
 | xd fs=>obtain ⟨_,⟨_,_,_,e,_⟩,_⟩:=x; exact Heap.lt_size e
 | rng lo hi=>obtain ⟨_,_,_,e⟩:=x; exact Heap.lt_size e
 | frz ob u=>obtain ⟨e,_⟩:=x; exact Heap.lt_size e
 | tbl ps=>exact Heap.lt_size (show h.get? a=some _ from x)
 | met f y=>exact Heap.lt_size (show h.get? a=some _ from x)
 | ext φ=>obtain ⟨_,⟨_,e⟩,_⟩:=x; exact Heap.lt_size e
theorem Paired.mapP {α β:Type} {F G:α→β→Prop}:∀{l₁:List α} {l₂:List β},Paired F l₁ l₂→(∀a b,F a b→G a b)→Paired G l₁ l₂
 | _,_,.nil,_=>.nil
 | _,_,.cons r t,f=>.cons (f _ _ r) (Paired.mapP t f)
theorem ObjOk.stay (x:ObjOk P w H h a o) (k:∀b u,(b=a∨H b=some (.own a))→h.get? b=some u→h'.get? b=some u)
  (ho:∀b,H b=some (.own a)→H' b=some (.own a)) (ht:∀b xs,H b=some (.tup xs)→H' b=some (.tup xs)):ObjOk P w H' h' a o:=by
 induction o with
 | lst xs=>obtain ⟨z,its,n,r,e⟩:=x; exact ⟨z,its,n,r,k _ _ (.inl rfl) e⟩
 | tup xs=>obtain ⟨z,its,r,ob,e,c⟩:=x; exact ⟨z,its,r,ob,k _ _ (.inl rfl) e,c⟩
 | dK kvs=>obtain ⟨z,y,vs,r,ob,es,ep,e,c⟩:=x; exact ⟨z,y,vs,r,ob,es,ep,k _ _ (.inl rfl) e,c⟩
 | dT kvs=>
  obtain ⟨z,y,xs,r,ob,es,ep,e,c⟩:=x;exact ⟨z,y,xs,Paired.mapP r fun p q z=>⟨z.1,ht _ _ z.2.1,z.2.2⟩,ob,es,ep,k _ _ (.inl rfl) e,c⟩
 | set S n=>obtain ⟨ob,es,ep,t,e,c⟩:=x; exact ⟨ob,es,ep,t,k _ _ (.inl rfl) e,c⟩
 | ins C dx fs=>
  obtain ⟨d,z,ne,e,mA,⟨od,es,ep,e2,c⟩,r⟩:=x;exact ⟨ho _ d,z,ne,k _ _ (.inl rfl) e,mA,⟨od,es,ep,k _ _ (.inr d) e2,c⟩,r⟩
 | own y=>obtain ⟨ob,e⟩:=x; exact ⟨ob,k _ _ (.inl rfl) e⟩
 | xd fs=>obtain ⟨mA,⟨od,es,ep,e,c⟩,r⟩:=x; exact ⟨mA,⟨od,es,ep,k _ _ (.inl rfl) e,c⟩,r⟩
 | rng lo hi=>obtain ⟨t,u,v,e⟩:=x; exact ⟨t,u,v,k _ _ (.inl rfl) e⟩
 | frz ob u ih=>obtain ⟨e,q⟩:=x; exact ⟨k _ _ (.inl rfl) e,ih q⟩
 | tbl ps=>
  have e:h.get? a=some {cls:=.none,data:=.fields ps}:=x;show h'.get? a=some {cls:=.none,data:=.fields ps};exact k a _ (.inl rfl) e
 | met f y=>
  have e:h.get? a=some (PySem.W.methodObj (.ref f) (.ref y)):=x;show h'.get? a=some (PySem.W.methodObj (.ref f) (.ref y));exact k a _ (.inl rfl) e
 | ext φ=>obtain ⟨p,⟨o,e⟩,st⟩:=x; exact ⟨st _ _ p fun o q=>k _ _ (.inl rfl) q,⟨o,k _ _ (.inl rfl) e⟩,st⟩
theorem HOk.lt (x:HOk P w H h) (e:H a=some o):a < h.objs.size:=(x a o e).lt
theorem HOk.fresh (x:HOk P w H h) (e:h.objs.size≤a):H a=none:=by
 cases q:H a with
 | none=>rfl
 | some u=>exact absurd (Nat.lt_of_lt_of_le (x.lt q) e) (Nat.lt_irrefl _)
theorem HOk.kept (x:HOk P w H h) (k:∀b u,h.get? b=some u→h'.get? b=some u):HOk P w H h':=fun a o e=>
 (x a o e).stay (fun b u _ q=>k b u q) (fun _ q=>q) fun _ _ q=>q
theorem HOk.laid (x:HOk P w H h) (k:∀b u,h.get? b=some u→h'.get? b=some u) (hp:h.objs.size≤a) (new:ObjOk P w (upd H a o) h' a o):HOk P w (upd H a o) h':=fun b u e=>by
 have hn:=x.fresh hp
 by_cases hb:b=a
 ·subst hb; rw [ai] at e; cases e; exact new
 ·rw [am hb] at e;exact (x b u e).stay (fun c v _ q=>k c v q) (fun c q=>by rw [am (ak q hn)]; exact q) fun c xs q=>by rw [am (ak q hn)]; exact q
end
def Rd (H:Hp) (a:Addr) (u:HO):Prop:=H a=some u∨∃o,H a=some (.frz o u)
theorem Rd.ok {P:Program} {w:World} {H:Hp} {h:Heap} {a:Addr} {u:HO} (r:Rd H a u) (x:HOk P w H h):ObjOk P w H h a u:=by
 rcases r with r | ⟨o,r⟩
 ·exact x a u r
 ·obtain ⟨_,q⟩:=x a _ r;exact q
def Mut:Option HO→Prop
 | some (.lst _)=>True
 | some (.dK _)=>True
 | some (.dT _)=>True
 | some (.set _ _)=>True
 | some (.ins _ _ _)=>True
 | some (.ext _)=>True
 | _=>False
section
variable {P:Program} {w:World} {H:Hp} {h h':Heap} {x e:Addr} {o':HO}
theorem HOk.write (ok:HOk P w H h) (mu:Mut (H x)) (he:e=x∨H e=some (.own x)) (k:∀b u,b≠e→h.get? b=some u→h'.get? b=some u) (heo:∃u,h'.get? e=some u)
  (new:ObjOk P w (upd H x o') h' x o'):HOk P w (upd H x o') h':=fun b u q=>by
 have nown:∀c y,H c=some (.own y)→c≠x:=fun c y r z=>by subst z; rw [r] at mu; exact mu
 have ntup:∀c xs,H c=some (.tup xs)→c≠x:=fun c xs r z=>by subst z; rw [r] at mu; exact mu
 by_cases hb:b=x
 ·subst hb; rw [ai] at q; cases q; exact new
 ·rw [am hb] at q
  by_cases hbe:b=e
  ·have q':H b=some (.own x):=by
    rcases he with z | z
    ·exact absurd (hbe.trans z) hb
    ·rw [hbe]; exact z
   rw [q] at q'; cases q';obtain ⟨v,hv⟩:=heo;exact ⟨v,by rw [hbe]; exact hv⟩
  ·refine (ok b u q).stay (fun c v hc r=>k c v ?_ r) (fun c r=>by rw [am (nown c b r)]; exact r) fun c xs r=>by rw [am (ntup c xs r)]; exact r
   rcases hc with rfl | hc
   ·exact hbe
   ·rintro rfl;rcases he with z | z
    ·exact nown c b hc z
    ·rw [hc] at z; cases z; exact hb rfl
end
structure Un (fs ex:List Addr) (H H':Hp) (h h':Heap):Prop where
 keep:∀b o,h.get? b=some o→H b=none→b∉fs→b∉ex→h'.get? b=some o
 slot:∀b o,h.get? b=some o→H b=none→b∈fs→b∉ex→∃sl,h'.get? b=some {o with slots:=sl}
 free:∀b o,h.get? b=some o→H b=none→b∉ex→H' b=none
 there:∀b o,h.get? b=some o→b∉ex→∃o',h'.get? b=some o'
 tups:∀b xs,H b=some (.tup xs)→H' b=some (.tup xs)
 frzs:∀b o u,H b=some (.frz o u)→H' b=some (.frz o u)
 tbls:∀b ps,H b=some (.tbl ps)→∃more,H' b=some (.tbl (ps ++ more))
section
variable {fs fs' ex ex':List Addr} {H H1 H2:Hp} {h h1 h2 h':Heap} {a x e:Addr} {o:HO}
theorem Un.any (u:Un fs ex H H1 h h1) {b:Addr} {ob:Obj} (q:h.get? b=some ob) (n:H b=none) (hx:b∉ex):∃sl,h1.get? b=some {ob with slots:=sl}:=by
 by_cases hb:b∈fs
 ·exact u.slot b ob q n hb hx
 ·exact ⟨ob.slots,u.keep b ob q n hb hx⟩
theorem Un.trans (a:Un fs ex H H1 h h1) (b:Un fs ex H1 H2 h1 h2):Un fs ex H H2 h h2 where
 keep:=fun c ob q n hc hx=>b.keep c ob (a.keep c ob q n hc hx) (a.free c ob q n hx) hc hx
 slot:=fun c ob q n hc hx=>by
  obtain ⟨sl,e1⟩:=a.slot c ob q n hc hx;obtain ⟨sl',e2⟩:=b.slot c _ e1 (a.free c ob q n hx) hc hx;exact ⟨sl',e2⟩
 free:=fun c ob q n hx=>by
  obtain ⟨o',e1⟩:=a.there c ob q hx;exact b.free c o' e1 (a.free c ob q n hx) hx
 there:=fun c ob q hx=>by
  obtain ⟨o',e1⟩:=a.there c ob q hx;exact b.there c o' e1 hx
 tups:=fun c xs q=>b.tups c xs (a.tups c xs q)
 frzs:=fun c ob xs q=>b.frzs c ob xs (a.frzs c ob xs q)
 tbls:=fun c ps q=>by
  obtain ⟨m1,e1⟩:=a.tbls c ps q;obtain ⟨m2,e2⟩:=b.tbls c _ e1;exact ⟨m1 ++ m2,by rw [e2,Array.append_assoc]⟩
theorem Un.kept (k:∀b u,h.get? b=some u→h'.get? b=some u):Un fs ex H H h h':=
 ⟨fun b ob q _ _ _=>k b ob q,fun b ob q _ _ _=>⟨ob.slots,k b ob q⟩,fun _ _ _ n _=>n,fun b ob q _=>⟨ob,k b ob q⟩,fun _ _ q=>q,fun _ _ _ q=>q,fun _ ps q=>⟨#[],by rw [q]; simp⟩⟩
theorem Un.refl:Un fs ex H H h h:=Un.kept fun _ _ q=>q
theorem Un.laid (k:∀b u,h.get? b=some u→h'.get? b=some u) (hp:h.objs.size≤a) (hn:H a=none):Un fs ex H (upd H a o) h h' where
 keep:=fun b u q _ _ _=>k b u q
 slot:=fun b u q _ _ _=>⟨u.slots,k b u q⟩
 free:=fun b u q n _=>by rw [am (Nat.ne_of_lt (Nat.lt_of_lt_of_le (Heap.lt_size q) hp))]; exact n
 there:=fun b u q _=>⟨u,k b u q⟩
 tups:=fun b xs q=>by rw [am (ak q hn)]; exact q
 frzs:=fun b u xs q=>by rw [am (ak q hn)]; exact q
 tbls:=fun b ps q=>⟨#[],by rw [am (ak q hn),q]; simp⟩
theorem Un.write (mu:Mut (H x)) (he:e=x∨H e=some (.own x)) (k:∀b u,b≠e→h.get? b=some u→h'.get? b=some u) (heo:∃u,h'.get? e=some u):Un fs ex H (upd H x o) h h':=by
 have hx:∀b,H b=none→b≠x:=fun b n z=>by subst z; rw [n] at mu; exact mu
 have hb:∀b,H b=none→b≠e:=fun b n z=>by
  subst z;rcases he with r | r
  ·exact hx b n r
  ·rw [n] at r; cases r
 have hm:∀b u,H b=some u→¬Mut (some u)→b≠x:=fun b u q nm z=>by subst z; rw [q] at mu; exact nm mu
 refine ⟨fun b u q n _ _=>k b u (hb b n) q,fun b u q n _ _=>⟨u.slots,k b u (hb b n) q⟩,fun b u q n _=>by rw [am (hx b n)]; exact n,fun b u q _=>?_,
  fun b xs q=>by rw [am (hm b _ q fun z=>z)]; exact q,fun b u xs q=>by rw [am (hm b _ q fun z=>z)]; exact q,fun b ps q=>⟨#[],by rw [am (hm b _ q fun z=>z),q]; simp⟩⟩
 by_cases hbe:b=e
 ·subst hbe; exact heo
 ·exact ⟨u,k b u hbe q⟩
theorem Un.mono (u:Un fs ex H H1 h h1) (hs:∀b∈fs,b∈fs') (hx:∀b∈ex,b∈ex'):Un fs' ex' H H1 h h1:=
 ⟨fun b ob q n hb he=>u.keep b ob q n (fun z=>hb (hs b z)) fun z=>he (hx b z),fun _ _ q n _ he=>u.any q n fun z=>he (hx _ z),fun b ob q n he=>u.free b ob q n fun z=>he (hx b z),fun b ob q he=>u.there b ob q fun z=>he (hx b z),u.tups,u.frzs,u.tbls⟩
end
def trk (h:Heap) (H:Hp):List Addr:=(List.range h.objs.size).filter fun a=>(H a).isSome
def kn (h:Heap) (H:Hp):Heap:=PySem.W.hideAll h (trk h H)
theorem rK (h:Heap) (H:Hp):(kn h H).objs.size=h.objs.size:=PySem.W.hideAll_size _ _
theorem tM {h:Heap} {H:Hp} {b:Addr} {o:Obj} (e:h.get? b=some o) (n:H b=none):(kn h H).get? b=some o:=
 PySem.W.hideAll_get _ e fun hm=>by
  have q:(H b).isSome=true:=(List.mem_filter.mp hm).2;rw [n] at q; simp at q
theorem vV {h:Heap} {H:Hp} {b:Addr} {o:Obj} (e:(kn h H).get? b=some o):h.get? b=some o∧H b=none:=by
 have e':h.get? b=some o:=PySem.W.of_hideAll (trk h H) e;refine ⟨e',?_⟩;cases q:H b with
 | none=>rfl
 | some x=>
  have hm:b∈trk h H:=List.mem_filter.mpr ⟨List.mem_range.mpr (Heap.lt_size e'),by simp [q]⟩;have z:(kn h H).get? b=none:=PySem.W.hideAll_none (trk h H) hm;rw [z] at e; cases e
structure Mod (K:PySem.W.Frag) (mg:Str→Option Value) (base:Heap):Prop where
 kin:K.In base
 glob:base.Ns mainGlobals mg
 blt:∃mb,base.Ns builtinsNs mb∧∀x:Str,x≠"__name__"→mb x=bootBuiltins x
 nolimit:base.NoLimit
structure Cx where
 prog:Program
 w:World
 K:PySem.W.Frag
 mg:Str→Option Value
 base:Heap
 A:Around
 N:List Str
 s₀:Shared
 H₀:Hp
 env:Env
 outer:List Env
 stack:List Env
 ex:List Addr
 fn:Str→Bool
 calm:Bool
 pn:List (Addr × Obj)
 xe:Value→Shared→Prop
def frs (l:List Env):List Addr:=l.filterMap (·.frame)
abbrev Cx.fs (X:Cx):List Addr:=frs X.outer
def Vis (sc:Scope) (x:Str):Prop:=sc.names.lookup x=some .local∨sc.names.lookup x=some .cell∨sc.names.lookup x=some .free
def Loc (sc:Scope) (x:Str):Prop:=sc.names.lookup x=some .local∨sc.names.lookup x=some .cell
def Look (env:Env) (h:Heap) (m:Str→Option Value) (x:Str) (u:Value):Prop:=
 (env.kindOf x=some .local∧m x=some u)∨((env.kindOf x=some .cell∨env.kindOf x=some .free)∧∃c,env.cells.lookup x=some c∧h.IsCell c (some u))
structure Cx.Ok (X:Cx):Prop where
 mod:Mod X.K X.mg X.base
 kind:X.env.scope.kind = .function
 glob:X.env.globals=mainGlobals
 blt:X.env.builtins=builtinsNs
 above:X.s₀.heap.objs.size≤X.env.locals
 inj:∀x y c,X.env.cells.lookup x=some c→X.env.cells.lookup y=some c→x=y
 has:∀x,(X.env.kindOf x=some .cell∨X.env.kindOf x=some .free)→∃c,X.env.cells.lookup x=some c
 cab:∀x c,X.fn x=true→X.env.cells.lookup x=some c→X.s₀.heap.objs.size≤c
 hd:X.calm=true→X.A.handled=none
 frames:X.A.frames=some X.stack
 stk:X.stack=X.outer∨(X.stack=X.env :: X.outer∧X.env.frame=some X.env.locals)
 exf:∀b∈X.ex,b≠X.env.locals∧∀x c,X.env.cells.lookup x=some c→c≠b
 bs:∀b o,X.base.get? b=some o→X.s₀.heap.get? b=some o∧X.H₀ b=none
 bsz:X.base.objs.size≤X.s₀.heap.objs.size
 noex:∀b o,X.base.get? b=some o→b∉X.ex
 exfs:∀b∈X.ex,b∉X.fs
 funs:X.s₀.heap.FunFrames X.base X.outer
 frf:∀b∈X.fs,X.H₀ b=none
structure Inv (X:Cx) (pins:List (Addr × Obj)) (σ:List (Option V)) (H:Hp) (s:Shared):Prop where
 ok:X.Ok
 os:s.os=X.s₀.os
 bare:AllBare s.gens
 base:Un X.fs X.ex X.H₀ H X.s₀.heap s.heap
 loc:∃m,s.heap.Ns X.env.locals m∧∀(i:Nat) (x:Str) (v:V),X.N[i]? = some x→σ[i]? = some (some v)→Vis X.env.scope x→∃u,RelV v u∧Look X.env s.heap m x u
 cell:∀x c,X.env.cells.lookup x=some c→∃v,s.heap.IsCell c v
 free:H X.env.locals=none
 freeC:∀x c,X.env.cells.lookup x=some c→H c=none
 pin:∀p∈X.pn ++ pins,s.heap.get? p.1=some p.2∧H p.1=none∧p.1≠X.env.locals∧p.1∉X.fs∧∀v,p.2.data≠.cell v
 hok:HOk X.prog X.w H s.heap
 len:σ.length=X.N.length
section
variable {X:Cx} {pins:List (Addr × Obj)} {σ:List (Option V)} {H H':Hp} {s:Shared} {h':Heap}
theorem Cx.Ok.nofr (ok:X.Ok) {b:Addr} {o:Obj} (e:X.base.get? b=some o):b∉X.fs:=fun hb=>by
 have:=(ok.funs.mem hb).1;rw [e] at this; cases this
theorem Inv.bs (I:Inv X pins σ H s):∀b o,X.base.get? b=some o→s.heap.get? b=some o∧H b=none:=fun b o e=>
 ⟨I.base.keep b o (I.ok.bs b o e).1 (I.ok.bs b o e).2 (I.ok.nofr e) (I.ok.noex b o e),I.base.free b o (I.ok.bs b o e).1 (I.ok.bs b o e).2 (I.ok.noex b o e)⟩
theorem Inv.bk (I:Inv X pins σ H s):∀b o,X.base.get? b=some o→s.heap.get? b=some o:=fun b o e=>(I.bs b o e).1
theorem Inv.mod (I:Inv X pins σ H s):Mod X.K X.mg X.base:=I.ok.mod
theorem Inv.kIn (I:Inv X pins σ H s):X.K.In s.heap:=I.ok.mod.kin.keeps I.bk
theorem Inv.nolimit (I:Inv X pins σ H s):s.heap.NoLimit:=I.ok.mod.nolimit.keeps I.bk
theorem Inv.lt (I:Inv X pins σ H s):X.env.locals < s.heap.objs.size:=let ⟨_,hn,_⟩:=I.loc; hn.lt
theorem Inv.sz (I:Inv X pins σ H s):X.s₀.heap.objs.size≤s.heap.objs.size:=Nat.le_trans I.ok.above (Nat.le_of_lt I.lt)
theorem Inv.nofs (I:Inv X pins σ H s) {a:Addr} (h:s.heap.objs.size≤a):a∉X.fs:=fun hb=>by
 obtain ⟨_,o,ho,_⟩:=I.ok.funs.mem hb;exact absurd (Nat.lt_of_lt_of_le (Heap.lt_size ho) (Nat.le_trans I.sz h)) (Nat.lt_irrefl _)
theorem Inv.cne (I:Inv X pins σ H s):∀x c,X.env.cells.lookup x=some c→c≠X.env.locals:=fun x c e z=>by
 obtain ⟨v,o,ho,hd⟩:=I.cell x c e;obtain ⟨m,⟨o',es,ep,ho',hd',_⟩,_⟩:=I.loc;rw [z,ho'] at ho; cases ho; rw [hd'] at hd; cases hd
theorem Inv.funs (I:Inv X pins σ H s):s.heap.FunFrames X.base X.outer:=by
 have all:∀(l:List Env),(∀b∈frs l,b∈X.fs)→X.s₀.heap.FunFrames X.base l→s.heap.FunFrames X.base l:=by
  intro l
  induction l with
  | nil=>intro _ _; trivial
  | cons env r ih=>
   intro hs hl;obtain ⟨hk,⟨L,o,hf,hn,ho,hd⟩,hr⟩:=hl;have hL:L∈X.fs:=hs L (by unfold frs; rw [List.filterMap_cons,hf]; exact List.mem_cons_self);obtain ⟨sl,e⟩:=I.base.slot L o ho (I.ok.frf L hL) hL fun z=>I.ok.exfs L z hL;exact ⟨hk,⟨L,_,hf,hn,e,hd⟩,ih (fun b hb=>hs b (by unfold frs; rw [List.filterMap_cons,hf]; exact List.mem_cons_of_mem _ hb)) hr⟩
 exact all X.outer (fun _ hb=>hb) I.ok.funs
theorem Inv.stack (I:Inv X pins σ H s):s.heap.FunFrames X.base X.stack:=by
 rcases I.ok.stk with e | ⟨e,hf⟩
 ·rw [e]; exact I.funs
 ·rw [e];obtain ⟨m,hn,_⟩:=I.loc;refine .cons (by rw [I.ok.kind]; decide) hf hn ?_ I.funs;exact Heap.get?_none_of_le (Nat.le_trans I.ok.bsz I.ok.above)
theorem Inv.stkSub (I:Inv X pins σ H s):∀b∈frs X.stack,b∈X.env.locals :: X.fs:=fun b hb=>by
 rcases I.ok.stk with e | ⟨e,hf⟩
 ·rw [e] at hb; exact List.mem_cons_of_mem _ hb
 ·rw [e] at hb;unfold frs at hb;rw [List.filterMap_cons,hf] at hb;exact hb
theorem Inv.stkFree (I:Inv X pins σ H s):∀b∈frs X.stack,H b=none:=fun b hb=>by
 rcases List.mem_cons.mp (I.stkSub b hb) with e | hb
 ·rw [e]; exact I.free
 ·obtain ⟨_,o,ho,_⟩:=I.ok.funs.mem hb;exact I.base.free b o ho (I.ok.frf b hb) fun z=>I.ok.exfs b z hb
theorem Inv.step {g':Array GenState} {t':Nat} {d':Drawn} {ch:List Addr} (I:Inv X pins σ H s)
  (hch:∀b∈ch,(b∈X.ex∨X.s₀.heap.objs.size≤b)∧b≠X.env.locals∧(∀x c,X.env.cells.lookup x=some c→c≠b)∧∀p∈X.pn ++ pins,p.1≠b)
  (keep:∀b o,b≠X.env.locals→b∉X.fs→b∉ch→s.heap.get? b=some o→H b=none→h'.get? b=some o)
  (slot:∀b o,b≠X.env.locals→b∈X.fs→b∉ch→s.heap.get? b=some o→H b=none→∃sl,h'.get? b=some {o with slots:=sl}) (free:∀b o,b∉ch→s.heap.get? b=some o→H b=none→H' b=none)
  (there:∀b o,b∉ch→s.heap.get? b=some o→∃o',h'.get? b=some o')
  (tups:∀b xs,H b=some (.tup xs)→H' b=some (.tup xs)) (frzs:∀b o u,H b=some (.frz o u)→H' b=some (.frz o u)) (tbls:∀b ps,H b=some (.tbl ps)→∃more,H' b=some (.tbl (ps ++ more)))
  (ns:∀m,s.heap.Ns X.env.locals m→h'.Ns X.env.locals m) (hok:HOk X.prog X.w H' h') (hg:AllBare g') :
  Inv X pins σ H' {s with heap:=h',gens:=g',drawn:=d',toks:=t'}:=by
 have neL:∀b o,X.s₀.heap.get? b=some o→b≠X.env.locals:=fun b o e=>Nat.ne_of_lt (Nat.lt_of_lt_of_le (Heap.lt_size e) I.ok.above);have neC:∀b o,X.s₀.heap.get? b=some o→b∉X.ex→b∉ch:=fun b o e hx hb=>by
  rcases (hch b hb).1 with z | z
  ·exact hx z
  ·exact absurd (Nat.lt_of_lt_of_le (Heap.lt_size e) z) (Nat.lt_irrefl _)
 have cellK:∀x c,X.env.cells.lookup x=some c→∀v,s.heap.IsCell c v→h'.IsCell c v:=fun x c e v ⟨o,ho,hd⟩=>by
  have nch:c∉ch:=fun z=>(hch c z).2.2.1 x c e rfl
  by_cases hc:c∈X.fs
  ·obtain ⟨sl,q⟩:=slot c o (I.cne x c e) hc nch ho (I.freeC x c e);exact ⟨_,q,hd⟩
  ·exact ⟨o,keep c o (I.cne x c e) hc nch ho (I.freeC x c e),hd⟩
 refine ⟨I.ok,I.os,hg,⟨fun b o e n hb hx=>?_,fun b o e n hb hx=>?_,fun b o e n hx=>?_,fun b o e hx=>?_,fun b xs e=>tups b xs (I.base.tups b xs e),fun b o xs e=>frzs b o xs (I.base.frzs b o xs e),fun b ps e=>?_⟩,?_,fun x c e=>?_,?_,fun x c e=>?_,fun p hp=>?_,hok,I.len⟩
 ·exact keep b o (neL b o e) hb (neC b o e hx) (I.base.keep b o e n hb hx) (I.base.free b o e n hx)
 ·obtain ⟨sl,e1⟩:=I.base.slot b o e n hb hx;obtain ⟨sl',e2⟩:=slot b _ (neL b o e) hb (neC b o e hx) e1 (I.base.free b o e n hx);exact ⟨sl',e2⟩
 ·obtain ⟨o',e1⟩:=I.base.there b o e hx;exact free b o' (neC b o e hx) e1 (I.base.free b o e n hx)
 ·obtain ⟨o',e1⟩:=I.base.there b o e hx;exact there b o' (neC b o e hx) e1
 ·obtain ⟨m1,e1⟩:=I.base.tbls b ps e;obtain ⟨m2,e2⟩:=tbls b _ e1;exact ⟨m1 ++ m2,by rw [e2,Array.append_assoc]⟩
 ·obtain ⟨m,hn,hl⟩:=I.loc;refine ⟨m,ns m hn,fun i x v e1 e2 e3=>?_⟩;obtain ⟨u,r,l⟩:=hl i x v e1 e2 e3;refine ⟨u,r,?_⟩;rcases l with l | ⟨k,c,e,z⟩
  ·exact .inl l
  ·exact .inr ⟨k,c,e,cellK x c e _ z⟩
 ·obtain ⟨v,z⟩:=I.cell x c e;exact ⟨v,cellK x c e v z⟩
 ·obtain ⟨m,⟨o,_,_,ho,_⟩,_⟩:=I.loc;exact free _ o (fun z=>(hch _ z).2.1 rfl) ho I.free
 ·obtain ⟨v,o,ho,hd⟩:=I.cell x c e;exact free c o (fun z=>(hch c z).2.2.1 x c e rfl) ho (I.freeC x c e)
 ·obtain ⟨e,n,ne,nf,d⟩:=I.pin p hp;have nch:p.1∉ch:=fun z=>(hch p.1 z).2.2.2 p hp rfl;exact ⟨keep p.1 p.2 ne nf nch e n,free p.1 p.2 nch e n,ne,nf,d⟩
theorem Inv.un {t':Nat} (I:Inv X pins σ H s) (u:Un X.fs [] H H' s.heap h') (hok:HOk X.prog X.w H' h'):Inv X pins σ H' {s with heap:=h',toks:=t'}:=by
 obtain ⟨m,⟨o,es,ep,ho,r⟩,_⟩:=id I.loc;obtain ⟨sl,hL⟩:=u.any ho I.free (by simp);exact I.step (g':=s.gens) (d':=s.drawn) (ch:=[]) (fun _ z=>nomatch z) (fun b o _ hb _ e n=>u.keep b o e n hb (by simp)) (fun b o _ hb _ e n=>u.slot b o e n hb (by simp)) (fun b o _ e n=>u.free b o e n (by simp)) (fun b o _ e=>u.there b o e (by simp)) u.tups u.frzs u.tbls (fun m' hm=>by
  obtain ⟨o',es',ep',ho',r'⟩:=hm;rw [ho] at ho'; cases ho';exact ⟨_,es',ep',hL,r'⟩) hok I.bare
theorem Inv.call {g':Array GenState} {t':Nat} {d':Drawn} {ch:List Addr} (I:Inv X pins σ H s) (u:Un (frs X.stack) ch H H' s.heap h') (hok:HOk X.prog X.w H' h') (hg:AllBare g')
  (hch:∀b∈ch,(b∈X.ex∨X.s₀.heap.objs.size≤b)∧b≠X.env.locals∧(∀x c,X.env.cells.lookup x=some c→c≠b)∧∀p∈X.pn ++ pins,p.1≠b) :
  Inv X pins σ H' {s with heap:=h',gens:=g',drawn:=d',toks:=t'}:=by
 obtain ⟨m,⟨o,es,ep,ho,r⟩,_⟩:=id I.loc;obtain ⟨sl,hL⟩:=u.any ho I.free fun z=>(hch _ z).2.1 rfl;exact I.step (ch:=ch) hch (fun b o hL hb hc e n=>u.keep b o e n (fun z=>(List.mem_cons.mp (I.stkSub b z)).elim hL hb) hc) (fun b o _ _ hc e n=>u.any e n hc) (fun b o hc e n=>u.free b o e n hc) (fun b o hc e=>u.there b o e hc) u.tups u.frzs u.tbls (fun m' hm=>by
  obtain ⟨o',es',ep',ho',r'⟩:=hm;rw [ho] at ho'; cases ho';exact ⟨_,es',ep',hL,r'⟩) hok hg
theorem Inv.turned {t':Nat} {it:Addr} (I:Inv X pins σ H s) (k:∀b o,b≠it→s.heap.get? b=some o→h'.get? b=some o) (hn:H it=none) (hL:it≠X.env.locals)
  (h1:it∈X.ex∨X.s₀.heap.objs.size≤it) (h2:∀x c,X.env.cells.lookup x=some c→c≠it) (h3:∀p∈X.pn ++ pins,p.1≠it):Inv X pins σ H {s with heap:=h',toks:=t'}:=by
 have nit:∀b u,H b=some u→b≠it:=fun b u e z=>by rw [z,hn] at e; cases e
 refine I.step (g':=s.gens) (d':=s.drawn) (ch:=[it]) (fun b hb=>?_) (fun b o _ _ hc e _=>k b o (fun z=>hc (by simp [z])) e) (fun b o _ _ hc e _=>⟨o.slots,k b o (fun z=>hc (by simp [z])) e⟩) (fun _ _ _ _ n=>n)
  (fun b o hc e=>⟨o,k b o (fun z=>hc (by simp [z])) e⟩) (fun _ _ e=>e) (fun _ _ _ e=>e) (fun b ps e=>⟨#[],by rw [e]; simp⟩) (fun m hm=>?_) (fun b u e=>?_) I.bare
 ·have e:b=it:=by simpa using hb
  subst e;exact ⟨h1,hL,h2,h3⟩
 ·obtain ⟨o,es,ep,ho,r⟩:=hm;exact ⟨o,es,ep,k _ o (Ne.symm hL) ho,r⟩
 ·refine (I.hok b u e).stay (fun c v hc q=>k c v ?_ q) (fun _ q=>q) fun _ _ q=>q;rcases hc with z | z
  ·rw [z]; exact nit b u e
  ·exact nit c _ z
theorem Inv.tok (I:Inv X pins σ H s) (t:Nat):Inv X pins σ H {s with toks:=t}:=I.un (h':=s.heap) (t':=t) Un.refl I.hok
theorem Inv.kept {t':Nat} (I:Inv X pins σ H s) (k:∀b u,s.heap.get? b=some u→h'.get? b=some u):Inv X pins σ H {s with heap:=h',toks:=t'}:=I.un (Un.kept k) (I.hok.kept k)
theorem Inv.laid {a:Addr} {o:HO} {t':Nat} (I:Inv X pins σ H s) (k:∀b u,s.heap.get? b=some u→h'.get? b=some u) (hp:s.heap.objs.size≤a) (new:ObjOk X.prog X.w (upd H a o) h' a o) :
  Inv X pins σ (upd H a o) {s with heap:=h',toks:=t'}:=I.un (Un.laid k hp (I.hok.fresh hp)) (I.hok.laid k hp new)
theorem Inv.write {x e:Addr} {o:HO} {t':Nat} (I:Inv X pins σ H s) (mu:Mut (H x)) (he:e=x∨H e=some (.own x)) (k:∀b u,b≠e→s.heap.get? b=some u→h'.get? b=some u) (heo:∃u,h'.get? e=some u)
  (new:ObjOk X.prog X.w (upd H x o) h' x o):Inv X pins σ (upd H x o) {s with heap:=h',toks:=t'}:=I.un (Un.write mu he k heo) (I.hok.write mu he k heo new)
theorem Inv.pins_of {pins':List (Addr × Obj)} (I:Inv X pins σ H s) (h:∀p∈pins',s.heap.get? p.1=some p.2∧H p.1=none∧p.1≠X.env.locals∧p.1∉X.fs∧∀v,p.2.data≠.cell v):Inv X pins' σ H s:=
 ⟨I.ok,I.os,I.bare,I.base,I.loc,I.cell,I.free,I.freeC,fun p hp=>(List.mem_append.mp hp).elim (fun z=>I.pin p (List.mem_append_left _ z)) (h p),I.hok,I.len⟩
theorem jL {N:List Str} (hN:N.Nodup) {i j:Nat} {x:Str} (a:N[i]? = some x) (b:N[j]? = some x):i=j:=by
 obtain ⟨h1,e1⟩:=List.getElem?_eq_some_iff.mp a;obtain ⟨h2,e2⟩:=List.getElem?_eq_some_iff.mp b;exact (List.getElem_inj hN).mp (e1.trans e2.symm)
theorem i5 {M:Model} {A:Around} {E:Value→Shared→Prop} {i:Nat} {x:Str} {v:V} {u:Value} {Q:Unit→Shared→Prop} (I:Inv X pins σ H s) (hN:X.N.Nodup) (hi:X.N[i]? = some x) (hx:Loc X.env.scope x) (r:RelV v u)
  (h:∀s',Inv X pins (σ.set i (some v)) H s'→(∃a,Heap.SameBut a s.heap s'.heap∧(a=X.env.locals∨X.env.cells.lookup x=some a))→Q () s') (hf:X.fn x=true∨X.env.scope.names.lookup x=some .local:=by first | exact .inl rfl | exact .inr rfl | assumption):wpAny M A (storeName X.env x u) Q E s:=by
 obtain ⟨m,hn,hl⟩:=id I.loc;have hcls:(X.env.scope.kind == .class || (X.env.scope.kind == .module && X.env.locals != X.env.globals))=false:=by rw [I.ok.kind]; rfl
 have hiσ:i < σ.length:=by rw [I.len]; exact (List.getElem?_eq_some_iff.mp hi).1
 have cne:=I.cne;have tracked:∀{a:Addr} {h':Heap},(∃o,s.heap.get? a=some o∧H a=none)→Heap.SameBut a s.heap h'→HOk X.prog X.w H h':=fun {a h'} ha hs b ob e=>by
  obtain ⟨_,_,hfree⟩:=ha;refine (I.hok b ob e).stay (fun c w' hc q=>(hs.2 c ?_).trans q) (fun _ q=>q) fun _ _ q=>q;rintro rfl;rcases hc with rfl | hc
  ·rw [hfree] at e; cases e
  ·rw [hfree] at hc; cases hc
 rcases hx with hk | hk
 ·refine wpAny_storeName_local hk hn (fun h' hn' hs=>?_) hcls;obtain ⟨oL,_,_,hoL,_⟩:=id hn;refine h _ ⟨I.ok,I.os,I.bare,⟨fun b o e n hb hx=>?_,fun b o e n hb hx=>?_,I.base.free,fun b o e hx=>?_,I.base.tups,I.base.frzs,I.base.tbls⟩,⟨_,hn',fun j y v' e1 e2 e3=>?_⟩,fun y c e=>?_,I.free,I.freeC,fun p hp=>?_,tracked ⟨oL,hoL,I.free⟩ hs,by simpa using I.len⟩ ⟨_,hs,.inl rfl⟩
  ·exact (hs.2 b (Nat.ne_of_lt (Nat.lt_of_lt_of_le (Heap.lt_size e) I.ok.above))).trans (I.base.keep b o e n hb hx)
  ·obtain ⟨sl,e1⟩:=I.base.slot b o e n hb hx;exact ⟨sl,(hs.2 b (Nat.ne_of_lt (Nat.lt_of_lt_of_le (Heap.lt_size e) I.ok.above))).trans e1⟩
  ·obtain ⟨o',e1⟩:=I.base.there b o e hx;exact ⟨o',(hs.2 b (Nat.ne_of_lt (Nat.lt_of_lt_of_le (Heap.lt_size e) I.ok.above))).trans e1⟩
  ·by_cases hj:j=i
   ·subst hj;rw [hi] at e1; cases e1;rw [List.getElem?_set_self hiσ] at e2;cases e2;exact ⟨u,r,.inl ⟨hk,by simp⟩⟩
   ·rw [List.getElem?_set_ne (Ne.symm hj)] at e2;obtain ⟨u',r',q⟩:=hl j y v' e1 e2 e3;refine ⟨u',r',?_⟩;rcases q with ⟨k,e⟩ | ⟨k,c,e,z⟩
    ·refine .inl ⟨k,?_⟩;have:y≠x:=fun e=>hj (jL hN e1 (e ▸ hi));simp [this,e]
    ·exact .inr ⟨k,c,e,z.sameBut hs (cne y c e)⟩
  ·obtain ⟨w',z⟩:=I.cell y c e;exact ⟨w',z.sameBut hs (cne y c e)⟩
  ·obtain ⟨e,n,ne,nf,d⟩:=I.pin p hp;exact ⟨(hs.2 p.1 ne).trans e,n,ne,nf,d⟩
 ·have hfn:X.fn x=true:=by
   rcases hf with z | z
   ·exact z
   ·rw [z] at hk; cases hk
  obtain ⟨c,hc⟩:=I.ok.has x (.inl hk);obtain ⟨w',z⟩:=I.cell x c hc;refine wpAny_storeName_cell I.ok.kind hk hc z (fun h' hc' hs=>?_);obtain ⟨oc,hoc,hocd⟩:=id z;refine h {s with heap:=h'} ⟨I.ok,I.os,I.bare,⟨fun b o e n hb hx=>?_,fun b o e n hb hx=>?_,I.base.free,fun b o e hx=>?_,I.base.tups,I.base.frzs,I.base.tbls⟩,⟨m,hn.sameBut hs (Ne.symm (cne x c hc)),fun j y v' e1 e2 e3=>?_⟩,fun y c' e=>?_,I.free,I.freeC,fun p hp=>?_,tracked ⟨oc,hoc,I.freeC x c hc⟩ hs,by simpa using I.len⟩ ⟨c,hs,.inr hc⟩
  ·exact (hs.2 b (Nat.ne_of_lt (Nat.lt_of_lt_of_le (Heap.lt_size e) (I.ok.cab x c hfn hc)))).trans (I.base.keep b o e n hb hx)
  ·obtain ⟨sl,e1⟩:=I.base.slot b o e n hb hx;exact ⟨sl,(hs.2 b (Nat.ne_of_lt (Nat.lt_of_lt_of_le (Heap.lt_size e) (I.ok.cab x c hfn hc)))).trans e1⟩
  ·obtain ⟨o',e1⟩:=I.base.there b o e hx;exact ⟨o',(hs.2 b (Nat.ne_of_lt (Nat.lt_of_lt_of_le (Heap.lt_size e) (I.ok.cab x c hfn hc)))).trans e1⟩
  ·by_cases hj:j=i
   ·subst hj;rw [hi] at e1; cases e1;rw [List.getElem?_set_self hiσ] at e2;cases e2;exact ⟨u,r,.inr ⟨.inl hk,c,hc,hc'⟩⟩
   ·rw [List.getElem?_set_ne (Ne.symm hj)] at e2;obtain ⟨u',r',q⟩:=hl j y v' e1 e2 e3;refine ⟨u',r',?_⟩;rcases q with q | ⟨k,c',e,z'⟩
    ·exact .inl q
    ·refine .inr ⟨k,c',e,z'.sameBut hs ?_⟩;rintro rfl;exact hj (jL hN e1 (I.ok.inj _ _ _ e hc ▸ hi))
  ·by_cases hcc:c'=c
   ·subst hcc; exact ⟨_,hc'⟩
   ·obtain ⟨w2,z2⟩:=I.cell y c' e;exact ⟨w2,z2.sameBut hs hcc⟩
  ·obtain ⟨e,n,ne,nf,d⟩:=I.pin p hp;refine ⟨(hs.2 p.1 ?_).trans e,n,ne,nf,d⟩;intro q;rw [q,hoc] at e;have q':oc=p.2:=Option.some.inj e;exact d w' (by rw [← q']; exact hocd)
theorem eU {M:Model} {A:Around} {E:Value→Shared→Prop} {i:Nat} {x:Str} {v:V} {u:Value} {Q:Unit→Shared→Prop} (I:Inv X pins σ H s) (hN:X.N.Nodup) (hi:X.N[i]? = some x) (hx:Loc X.env.scope x) (r:RelV v u)
  (h:∀s',Inv X pins (σ.set i (some v)) H s'→Q () s') (hf:X.fn x=true∨X.env.scope.names.lookup x=some .local:=by first | exact .inl rfl | exact .inr rfl | assumption):wpAny M A (storeName X.env x u) Q E s:=
 i5 I hN hi hx r (fun s' I' _=>h s' I') hf
theorem Inv.call' {s':Shared} {ch:List Addr} (I:Inv X pins σ H s) (ho:s'.os=s.os) (u:Un (frs X.stack) ch H H' s.heap s'.heap) (hok:HOk X.prog X.w H' s'.heap) (hg:AllBare s'.gens)
  (hch:∀b∈ch,(b∈X.ex∨X.s₀.heap.objs.size≤b)∧b≠X.env.locals∧(∀x c,X.env.cells.lookup x=some c→c≠b)∧∀p∈X.pn ++ pins,p.1≠b):Inv X pins σ H' s':=by
 obtain ⟨h',g',d',t',o'⟩:=s';have e:o'=s.os:=ho;subst e;exact I.call (g':=g') (t':=t') (d':=d') u hok hg hch
end
abbrev XK:=Value→Option Addr→Hp→Prop
abbrev St:=List (Option V)
abbrev VK:=V→Hp→Prop
abbrev TE:=St→Hp→VK→Prop
abbrev TT:=St→Hp→(Bool→Hp→Prop)→Prop
abbrev TA:=St→Hp→(List V→Hp→Prop)→Prop
structure Ends where
 nx:St→Hp→Prop
 rt:VK
 bk:St→Hp→Prop:=fun _ _=>False
 ct:St→Hp→Prop:=fun _ _=>False
abbrev TS:=Ends→St→Hp→Prop
def EP (X:Cx) (pins:List (Addr × Obj)) (σ:St) (Q:VK) (u:Value) (s':Shared):Prop:=∃v H',Inv X pins σ H' s'∧RelV v u∧Q v H'
def TP (X:Cx) (pins:List (Addr × Obj)) (σ:St) (Q:Bool→Hp→Prop) (b:Bool) (s':Shared):Prop:=∃H',Inv X pins σ H' s'∧Q b H'
def AP (X:Cx) (pins:List (Addr × Obj)) (σ:St) (Q:List V→Hp→Prop) (us:List Value) (s':Shared):Prop:=∃vs H',Inv X pins σ H' s'∧Vals vs us∧Q vs H'
def SP (X:Cx) (pins:List (Addr × Obj)) (D:Ends) (f:Flow) (s':Shared):Prop:=
 match f with
 | .next=>∃σ' H',Inv X pins σ' H' s'∧D.nx σ' H'
 | .brk=>∃σ' H',Inv X pins σ' H' s'∧D.bk σ' H'
 | .cont=>∃σ' H',Inv X pins σ' H' s'∧D.ct σ' H'
 | .ret u=>∃v σ' H',Inv X pins σ' H' s'∧RelV v u∧D.rt v H'
def PE (X:Cx) (e:Expr) (t:TE):Prop:=
 ∀(pins:List (Addr × Obj)) (s:Shared) (σ:St) (H:Hp) (Q:VK),Inv X pins σ H s→t σ H Q→wpAny (model X.prog X.w) X.A (eval e X.env) (EP X pins σ Q) X.xe s
def PT (X:Cx) (e:Expr) (t:TT):Prop:=
 ∀(pins:List (Addr × Obj)) (s:Shared) (σ:St) (H:Hp) (Q:Bool→Hp→Prop),Inv X pins σ H s→t σ H Q→wpAny (model X.prog X.w) X.A (isTrue e X.env (eval e X.env)) (TP X pins σ Q) X.xe s
def PW (X:Cx) (e:Expr) (t:TT):Prop:=
 ∀(whole:Sem Value) (pins:List (Addr × Obj)) (s:Shared) (σ:St) (H:Hp) (Q:Bool→Hp→Prop),Inv X pins σ H s→t σ H Q→wpAny (model X.prog X.w) X.A (isTrue e X.env whole) (TP X pins σ Q) X.xe s
theorem PW.pt {X:Cx} {e:Expr} {t:TT} (h:PW X e t):PT X e t:=h _
def PA (X:Cx) (es:List Expr) (t:TA):Prop:=
 ∀(pos:Pos) (pins:List (Addr × Obj)) (s:Shared) (σ:St) (H:Hp) (Q:List V→Hp→Prop),Inv X pins σ H s→t σ H Q→wpAny (model X.prog X.w) X.A (spliced (backTo pos (starEach es X.env))) (AP X pins σ Q) X.xe s
def PS (X:Cx) (st:Stmt) (t:TS):Prop:=
 ∀(pins:List (Addr × Obj)) (s:Shared) (σ:St) (H:Hp) (D:Ends),Inv X pins σ H s→t D σ H→wpAny (model X.prog X.w) X.A (exec st X.env) (SP X pins D) X.xe s
def PSs (X:Cx) (st:List Stmt) (t:TS):Prop:=
 ∀(pins:List (Addr × Obj)) (s:Shared) (σ:St) (H:Hp) (D:Ends),Inv X pins σ H s→t D σ H→wpAny (model X.prog X.w) X.A (execs st X.env) (SP X pins D) X.xe s
theorem thn {α:Type} {t:Sem α} {Q Q':α→Shared→Prop} {M:Model} {A:Around} {E:Value→Shared→Prop} {s:Shared} (h:wpAny M A t Q E s) (hQ:∀a s,Q a s→Q' a s):wpAny M A t Q' E s:=wpAny_mono h hQ fun _ _ x=>x
section
variable {X:Cx}
def vW (i:Nat):TE:=fun σ H Q=>∃v,σ[i]? = some (some v)∧Q v H
def tC (v:V):TE:=fun _ H Q=>Q v H
theorem yw {i:Nat} {x:Str} {pos:Pos} (hN:X.N[i]? = some x) (hv:Vis X.env.scope x) (hd:(x == ("__debug__" : Str))=false:=by decide) (hcd:(x == ("__classdict__" : Str))=false:=by decide):PE X (.Name x pos) (vW i):=by
 intro pins s σ H Q I h;obtain ⟨v,e,h⟩:=h;obtain ⟨m,hn,hl⟩:=I.loc;obtain ⟨u,r,l⟩:=hl i x v hN e hv;have fin:EP X pins σ Q u s:=⟨v,H,I,r,h⟩;rcases l with ⟨hk,hm⟩ | ⟨hk,c,hc,hcell⟩
 ·exact wpAny_Name (wpAny_loadName_local I.ok.kind hk hn hm fin) hd
 ·rcases hk with hk | hk
  ·exact wpAny_Name (wpAny_loadName_cell I.ok.kind hk hc hcell fin) hd
  ·exact wpAny_Name (wpAny_loadName_free I.ok.kind hk hc hcell fin hcd) hd
theorem bz {i j pos}:PE X (.Constant (.int i) j pos) (tC (.int i)):=fun _ _ _ H _ I h=>wpAny_Constant_int ⟨.int i,H,I.tok _,⟨_,rfl⟩,h⟩
theorem zL {b j pos}:PE X (.Constant (.bool b) j pos) (tC (.bl b)):=fun _ _ _ H _ I h=>Constant_bool ⟨.bl b,H,I,rfl,h⟩
theorem yx {j pos}:PE X (.Constant .none j pos) (tC .non):=fun _ _ _ H _ I h=>Constant_none ⟨.non,H,I,rfl,h⟩
theorem yy {x j pos}:PE X (.Constant (.str x) j pos) (tC (.str x)):=fun _ _ _ H _ I h=>Calls.Constant_str ⟨.str x,H,I.tok _,⟨_,rfl⟩,h⟩
def Gl (X:Cx) (x:Str):Prop:=X.env.kindOf x=some .globalImplicit
theorem iE {E:Value→Shared→Prop} {pins:List (Addr × Obj)} {s:Shared} {σ:St} {H:Hp} {x:Str} {u:Value} {pos:Pos} {Q:Value→Shared→Prop} (I:Inv X pins σ H s) (hg:Gl X x) (hm:X.mg x=some u) (h:Q u s)
  (hd:(x == ("__debug__" : Str))=false:=by decide):wpAny (model X.prog X.w) X.A (eval (.Name x pos) X.env) Q E s:=
 Calls.Name_function_global I.ok.kind hg (Calls.loadGlobal_global (by rw [I.ok.glob]; exact I.mod.glob.keeps I.bk) hm h) hd
theorem eO {E:Value→Shared→Prop} {pins:List (Addr × Obj)} {s:Shared} {σ:St} {H:Hp} {x:Str} {u:Value} {pos:Pos} {Q:Value→Shared→Prop} (I:Inv X pins σ H s) (hg:Gl X x) (hm:X.mg x=none) (hv:bootBuiltins x=some u) (h:Q u s)
  (hn:x≠"__name__":=by decide) (hd:(x == ("__debug__" : Str))=false:=by decide):wpAny (model X.prog X.w) X.A (eval (.Name x pos) X.env) Q E s:=by
 obtain ⟨mb,h1,h2⟩:=I.mod.blt;exact Calls.Name_function_global I.ok.kind hg (Calls.loadGlobal_builtin (by rw [I.ok.glob]; exact I.mod.glob.keeps I.bk) hm (by rw [I.ok.blt]; exact h1.keeps I.bk) ((h2 x hn).trans hv) h) hd
theorem vX {x:Str} {v:V} {u:Value} {pos:Pos} (hg:Gl X x) (hm:X.mg x=some u) (r:RelV v u) (hd:(x == ("__debug__" : Str))=false:=by decide):PE X (.Name x pos) (tC v):=
 fun _ _ _ H _ I h=>iE I hg hm ⟨v,H,I,r,h⟩ hd
theorem mq {x:Str} {v:V} {u:Value} {pos:Pos} (hg:Gl X x) (hm:X.mg x=none) (hv:bootBuiltins x=some u) (r:RelV v u) (hn:x≠"__name__":=by decide) (hd:(x == ("__debug__" : Str))=false:=by decide):PE X (.Name x pos) (tC v):=
 fun _ _ _ H _ I h=>eO I hg hm hv ⟨v,H,I,r,h⟩ hn hd
variable {a b:Expr} {ta tb:TE} {pos:Pos}
def PC (X:Cx) (op:CmpOp) (a b:Expr) (t:TE):Prop:=
 ∀(pins:List (Addr × Obj)) (s:Shared) (σ:St) (H:Hp) (Q:VK),Inv X pins σ H s→t σ H Q→
  wpAny (model X.prog X.w) X.A (eval a X.env) (fun v s₁=>wpAny (model X.prog X.w) X.A (eval b X.env) (fun u s₂=>wpAny (model X.prog X.w) X.A (compareOp op v u) (EP X pins σ Q) X.xe s₂) X.xe s₁) X.xe s
theorem nO (b:Expr) {op:CmpOp} (h:op≠.In) (h2:op≠.NotIn):behindInMarks op b=false:=by
 have e1:(op == CmpOp.In)=false:=by cases op <;> first | rfl | exact absurd rfl h
 have e2:(op == CmpOp.NotIn)=false:=by cases op <;> first | rfl | exact absurd rfl h2
 cases b <;> simp [behindInMarks,e1,e2]
def xJ (ta:TE):TE:=fun σ H Q=>ta σ H fun x H1=>Q (.bl (!decide (x = .non))) H1
theorem RelV.none_iff {x:V} {v:Value} (r:RelV x v):(v == Value.none)=decide (x = .non):=by
 cases x with
 | non=>cases r; rfl
 | bl _=>cases r; rfl
 | int _=>obtain ⟨t,rfl⟩:=r; rfl
 | str _=>obtain ⟨t,rfl⟩:=r; rfl
 | byt _=>obtain ⟨t,rfl⟩:=r; rfl
 | flt _=>obtain ⟨t,rfl⟩:=r; rfl
 | ref _=>cases r; rfl
 | ty _=>cases r; rfl
theorem vY {j pos'} (ha:PE X a ta):PC X .IsNot a (.Constant .none j pos') (xJ ta):=by
 intro pins s σ H Q I h;refine thn (ha pins s σ H _ I h) fun v s1 ⟨x,H1,I1,r1,q1⟩=>?_;exact Constant_none (isnot_none_gen ⟨.bl _,H1,I1,by rw [r1.none_iff]; rfl,q1⟩)
def tB (t:TE):TT:=fun σ H Q=>t σ H fun x H1=>∃c,x = .bl c∧Q c H1
theorem yz {op:CmpOp} {t:TE} (h:PC X op a b t) (h1:behindInMarks op b=false:=by first | exact nO _ (by decide) (by decide) | rfl):PT X (.Compare a [op] [b] pos) (tB t):=by
 intro pins s σ H Q I hw;refine wpAny_isTrue_Compare1 (thn (h pins s σ H _ I hw) fun v s1 h1=>thn h1 fun u s2 h2=>thn h2 fun c s3 ⟨x,H1,I1,r1,q1⟩=>?_) h1;obtain ⟨d,rfl,q⟩:=q1;cases r1;exact wpAny_truthy_bool ⟨H1,I1,q⟩
theorem yA {e:Expr} {t:TE} (h:PE X e t) (he:∀whole,isTrue e X.env whole=(do let v ← whole; standAt e.pos; holding [v] (truthy v)):=by intro _; rfl):PT X e (tB t):=by
 intro pins s σ H Q I hw;refine isTrue_plain (thn (h pins s σ H _ I hw) fun v s1 ⟨x,H1,I1,r1,q1⟩=>?_) (he _);obtain ⟨d,rfl,q⟩:=q1;cases r1;exact wpAny_truthy_bool ⟨H1,I1,q⟩
variable {tA tB':TT} {rest:List Expr}
def zM (t u:TT):TT:=fun σ H Q=>t σ H fun c H1=>if c=true then u σ H1 Q else Q false H1
def tOr (t u:TT):TT:=fun σ H Q=>t σ H fun c H1=>if c=true then Q true H1 else u σ H1 Q
def zN (t:TT):TT:=fun σ H Q=>t σ H fun c H1=>Q (!c) H1
theorem vZ (ha:PT X a tA):PW X (.BoolOp .And [a] pos) tA:=by
 intro wh pins s σ H Q I h;refine isTrue_and (thn (ha pins s σ H Q I h) fun c s1 e=>?_);cases c with
 | true=>exact isTrue_and_nil e
 | false=>exact e
theorem yB (ha:PT X a tA):PW X (.BoolOp .Or [a] pos) tA:=by
 intro wh pins s σ H Q I h;refine isTrue_or (thn (ha pins s σ H Q I h) fun c s1 e=>?_);cases c with
 | false=>exact isTrue_or_nil e
 | true=>exact e
theorem yC (ha:PT X a tA) (hb:PW X (.BoolOp .And (b :: rest) pos) tB'):PW X (.BoolOp .And (a :: b :: rest) pos) (zM tA tB'):=by
 intro wh pins s σ H Q I h;refine isTrue_and (thn (ha pins s σ H _ I h) fun c s1 ⟨H1,I1,q1⟩=>?_);cases c with
 | true=>exact hb wh pins s1 σ H1 Q I1 q1
 | false=>exact ⟨H1,I1,q1⟩
theorem zO (ha:PT X a tA) (hb:PW X (.BoolOp .Or (b :: rest) pos) tB'):PW X (.BoolOp .Or (a :: b :: rest) pos) (tOr tA tB'):=by
 intro wh pins s σ H Q I h;refine isTrue_or (thn (ha pins s σ H _ I h) fun c s1 ⟨H1,I1,q1⟩=>?_);cases c with
 | true=>exact ⟨H1,I1,q1⟩
 | false=>exact hb wh pins s1 σ H1 Q I1 q1
theorem yD (ha:PT X a tA):PT X (.UnaryOp .Not a pos) (zN tA):=by
 intro pins s σ H Q I h;exact isTrue_not (ha pins s σ H (fun c H1=>Q (!c) H1) I h)
def xK (ta tb:TE):TE:=fun σ H Q=>ta σ H fun x H1=>∃c,x = .bl c∧if c=true then tb σ H1 Q else Q (.bl false) H1
def zP (ta tb:TE):TE:=fun σ H Q=>ta σ H fun x H1=>∃c,x = .bl c∧if c=true then Q (.bl true) H1 else tb σ H1 Q
def xL (ta:TE):TE:=fun σ H Q=>ta σ H fun x H1=>∃c,x = .bl c∧Q (.bl (!c)) H1
theorem tN {op} {t:TE} (h:PE X a t):PE X (.BoolOp op [a] pos) t:=fun pins s σ H Q I hw=>BoolOp_one (h pins s σ H Q I hw)
theorem tO (ha:PE X a ta) (hb:PE X (.BoolOp .And (b :: rest) pos) tb):PE X (.BoolOp .And (a :: b :: rest) pos) (xK ta tb):=by
 intro pins s σ H Q I h;refine BoolOp_and (thn (ha pins s σ H _ I h) fun v s1 ⟨x,H1,I1,r1,q1⟩=>?_);obtain ⟨c,rfl,q1⟩:=q1;cases r1;refine wpAny_truthy_bool ?_;cases c with
 | true=>exact hb pins s1 σ H1 Q I1 q1
 | false=>exact ⟨.bl false,H1,I1,rfl,q1⟩
theorem zQ (ha:PE X a ta) (hb:PE X (.BoolOp .Or (b :: rest) pos) tb):PE X (.BoolOp .Or (a :: b :: rest) pos) (zP ta tb):=by
 intro pins s σ H Q I h;refine BoolOp_or (thn (ha pins s σ H _ I h) fun v s1 ⟨x,H1,I1,r1,q1⟩=>?_);obtain ⟨c,rfl,q1⟩:=q1;cases r1;refine wpAny_truthy_bool ?_;cases c with
 | false=>exact hb pins s1 σ H1 Q I1 q1
 | true=>exact ⟨.bl true,H1,I1,rfl,q1⟩
theorem tP (ha:PE X a ta):PE X (.UnaryOp .Not a pos) (xL ta):=by
 intro pins s σ H Q I h;refine UnaryOp_ (thn (ha pins s σ H _ I h) fun v s1 ⟨x,H1,I1,r1,q1⟩=>?_);obtain ⟨c,rfl,q1⟩:=q1;cases r1;exact not_of (wpAny_truthy_bool ⟨.bl (!c),H1,I1,rfl,q1⟩)
end
def SqL (K:PySem.W.Frag) (H:Hp) (a:Addr) (xs:List V):Prop:=
 Rd H a (.lst xs)∨
  ∃(o:Obj) (its:Array Value) (n:Nat),K.lookup a=some o∧o.cls = .type "list"∧o.dict=none∧o.data = .seq its n∧its.size≤sizeLine∧Vals xs its.toList
def SqT (K:PySem.W.Frag) (H:Hp) (a:Addr) (xs:List V):Prop:=
 Rd H a (.tup xs)∨
  ∃(o:Obj) (its:Array Value) (n:Nat),K.lookup a=some o∧o.cls = .type "tuple"∧o.data = .seq its n∧its.size≤sizeLine∧Vals xs its.toList
def AK:Value→Option V
 | .none=>some .non
 | .bool b=>some (.bl b)
 | .int i _=>some (.int i)
 | .str x _=>some (.str x)
 | .bytes b _=>some (.byt b)
 | .float b _=>some (.flt b)
 | .ref a=>some (.ref a)
 | .type n=>some (.ty n)
 | _=>none
theorem RelV.abs {x:V} {u:Value} (r:RelV x u):AK u=some x:=by
 cases x with
 | non=>cases r; rfl
 | bl _=>cases r; rfl
 | int _=>obtain ⟨t,rfl⟩:=r; rfl
 | str _=>obtain ⟨t,rfl⟩:=r; rfl
 | byt _=>obtain ⟨t,rfl⟩:=r; rfl
 | flt _=>obtain ⟨t,rfl⟩:=r; rfl
 | ref _=>cases r; rfl
 | ty _=>cases r; rfl
theorem RelV.inj {x y:V} {u:Value} (r:RelV x u) (q:RelV y u):x=y:=Option.some.inj (r.abs.symm.trans q.abs)
theorem Vals.inj:∀{xs ys:List V} {us:List Value},Vals xs us→Vals ys us→xs=ys
 | _,_,_,.nil,.nil=>rfl
 | _,_,_,.cons r t,.cons r' t'=>by rw [r.inj r',Vals.inj t t']
section
variable {X:Cx} {pins:List (Addr × Obj)} {σ:St} {H:Hp} {s:Shared} {a:Addr} {xs ys:List V}
theorem SqL.of {K:PySem.W.Frag} (h:H a=some (.lst xs)):SqL K H a xs:=.inl (.inl h)
theorem SqT.of {K:PySem.W.Frag} (h:H a=some (.tup xs)):SqT K H a xs:=.inl (.inl h)
theorem Inv.list (I:Inv X pins σ H s) (h:SqL X.K H a xs):∃its:List Value,Vals xs its∧PlainL s.heap a its.toArray∧xs.length≤sizeLine:=by
 rcases h with h | ⟨o,its,n,hk,hc,hd,hs,hz,r⟩
 ·obtain ⟨z,its,n,r,e⟩:=h.ok I.hok;exact ⟨its,r,⟨_,n,e,rfl,rfl,rfl⟩,z⟩
 ·refine ⟨its.toList,r,⟨o,n,I.kIn a o hk,hc,hd,by simpa using hs⟩,?_⟩;have e:=r.length;simp only [Array.length_toList] at e;omega
theorem Inv.tuple (I:Inv X pins σ H s) (h:SqT X.K H a xs):∃its:List Value,Vals xs its∧IsTup s.heap a its.toArray∧xs.length≤sizeLine:=by
 rcases h with h | ⟨o,its,n,hk,hc,hs,hz,r⟩
 ·obtain ⟨z,its,r,p⟩:=h.ok I.hok;exact ⟨its,r,p,z⟩
 ·refine ⟨its.toList,r,⟨o,I.kIn a o hk,hc,n,by simpa using hs⟩,?_⟩;have e:=r.length;simp only [Array.length_toList] at e;omega
theorem Inv.list_inj (I:Inv X pins σ H s) (h:SqL X.K H a xs) (h':SqL X.K H a ys):xs=ys:=by
 obtain ⟨its,r,⟨o,n,e,_,_,d⟩,_⟩:=I.list h;obtain ⟨its',r',⟨o',n',e',_,_,d'⟩,_⟩:=I.list h';rw [e] at e'; cases e';rw [d] at d';injection d' with d1 _;have:its=its':=by simpa using congrArg Array.toList d1
 subst this;exact r.inj r'
theorem Inv.tuple_inj (I:Inv X pins σ H s) (h:SqT X.K H a xs) (h':SqT X.K H a ys):xs=ys:=by
 obtain ⟨its,r,⟨o,e,_,n,d⟩,_⟩:=I.tuple h;obtain ⟨its',r',⟨o',e',_,n',d'⟩,_⟩:=I.tuple h';rw [e] at e'; cases e';rw [d] at d';injection d' with d1 _;have:its=its':=by simpa using congrArg Array.toList d1
 subst this;exact r.inj r'
end
abbrev Cx.wish (X:Cx) (E:Value→Shared→Prop):Cx:={X with xe:=E}
abbrev Cx.nox (X:Cx):Cx:=X.wish fun _ _=>False
theorem Cx.Ok.wish {X:Cx} (ok:X.Ok) (E:Value→Shared→Prop):(X.wish E).Ok:=
 ⟨ok.mod,ok.kind,ok.glob,ok.blt,ok.above,ok.inj,ok.has,ok.cab,ok.hd,ok.frames,ok.stk,ok.exf,ok.bs,ok.bsz,ok.noex,ok.exfs,ok.funs,ok.frf⟩
theorem Cx.Ok.unwish {X:Cx} {E:Value→Shared→Prop} (ok:(X.wish E).Ok):X.Ok:=
 ⟨ok.mod,ok.kind,ok.glob,ok.blt,ok.above,ok.inj,ok.has,ok.cab,ok.hd,ok.frames,ok.stk,ok.exf,ok.bs,ok.bsz,ok.noex,ok.exfs,ok.funs,ok.frf⟩
section
variable {X:Cx} {pins:List (Addr × Obj)} {σ:St} {H:Hp} {s:Shared} {E:Value→Shared→Prop}
theorem Inv.wish (I:Inv X pins σ H s) (E:Value→Shared→Prop):Inv (X.wish E) pins σ H s:=⟨I.ok.wish E,I.os,I.bare,I.base,I.loc,I.cell,I.free,I.freeC,I.pin,I.hok,I.len⟩
theorem Inv.unwish (I:Inv (X.wish E) pins σ H s):Inv X pins σ H s:=⟨I.ok.unwish,I.os,I.bare,I.base,I.loc,I.cell,I.free,I.freeC,I.pin,I.hok,I.len⟩
theorem SP.unwish {D:Ends} {f:Flow} {s':Shared} (h:SP (X.wish E) pins D f s'):SP X pins D f s':=by
 cases f with
 | next=>obtain ⟨σ',H',I,q⟩:=h; exact ⟨σ',H',I.unwish,q⟩
 | brk=>obtain ⟨σ',H',I,q⟩:=h; exact ⟨σ',H',I.unwish,q⟩
 | cont=>obtain ⟨σ',H',I,q⟩:=h; exact ⟨σ',H',I.unwish,q⟩
 | ret u=>obtain ⟨v,σ',H',I,r,q⟩:=h; exact ⟨v,σ',H',I.unwish,r,q⟩
theorem PSs.nox {st:List Stmt} {t:TS} (h:PSs X.nox st t):PSs X st t:=fun pins s σ H D I hw=>
 wpAny_mono (h pins s σ H D (I.wish _) hw) (fun _ _ q=>q.unwish) fun _ _ z=>False.elim z
end
section
variable {X:Cx} {st:Stmt} {rest:List Stmt} {t u:TS} {e:Expr} {te:TE} {pos:Pos}
def xM:TS:=fun D σ H=>D.nx σ H
def zR (t u:TS):TS:=fun D σ H=>t {D with nx:=u D} σ H
theorem qu:PSs X [] xM:=fun _ _ σ H _ I h=>wpAny_execs_nil ⟨σ,H,I,h⟩
theorem cr (h1:PS X st t) (h2:PSs X rest u):PSs X (st :: rest) (zR t u):=by
 intro pins s σ H D I h;refine wpAny_execs_cons (thn (h1 pins s σ H {D with nx:=u D} I h) fun f s1 q=>?_);cases f with
 | next=>
  obtain ⟨σ',H',I',q⟩:=q;exact h2 pins s1 σ' H' D I' q
 | ret v=>exact q
 | brk=>exact q
 | cont=>exact q
theorem dH (h1:PS X st t):PSs X [st] t:=by
 intro pins s σ H D I h;refine wpAny_execs_cons (thn (h1 pins s σ H D I h) fun f s1 q=>?_);cases f with
 | next=>exact wpAny_execs_nil q
 | ret v=>exact q
 | brk=>exact q
 | cont=>exact q
theorem Inv.quiet {pins:List (Addr × Obj)} {σ:St} {H:Hp} {s:Shared} (I:Inv X pins σ H s):interactive X.env=false:=by simp [interactive,I.ok.kind]
def xN (te:TE):TS:=fun D σ H=>te σ H fun _ H1=>D.nx σ H1
theorem wa (he:PE X e te) (hs:swapsWith e none pos.line X.env=pure false:=by rfl):PS X (.Expr e pos) (xN te):=by
 intro pins s σ H D I h;exact wpAny_Expr_any (thn (he pins s σ H _ I h) fun v s1 ⟨x,H1,I1,r1,q1⟩=>⟨σ,H1,I1,q1⟩) I.quiet hs
def zS (te:TE):TS:=fun D σ H=>te σ H D.rt
theorem io (he:PE X e te):PS X (.Return (some e) pos) (zS te):=by
 intro pins s σ H D I h;exact wpAny_Return_some (thn (he pins s σ H _ I h) fun v s1 ⟨x,H1,I1,r1,q1⟩=>⟨x,σ,H1,I1,r1,q1⟩)
def zT (c:TT) (t u:TS):TS:=fun D σ H=>c σ H fun b H1=>if b=true then t D σ H1 else u D σ H1
theorem xO {c:Expr} {a b:List Stmt} {tc:TT} (hc:PT X c tc) (ha:PSs X a t) (hb:PSs X b u):PS X (.If c a b pos) (zT tc t u):=by
 intro pins s σ H D I h;refine wpAny_If (thn (hc pins s σ H _ I h) fun d s1 ⟨H1,I1,q1⟩=>?_);cases d with
 | true=>exact ha pins s1 σ H1 D I1 q1
 | false=>exact hb pins s1 σ H1 D I1 q1
def tQ:TS:=fun _ _ _=>False
theorem rL {sts:List Stmt}:PSs X sts tQ:=fun _ _ _ _ _ _ h=>h.elim
end
abbrev TG:=V→St→Hp→(St→Hp→Prop)→Prop
abbrev TGs:=List V→St→Hp→(St→Hp→Prop)→Prop
def PG (X:Cx) (target:Expr) (t:TG):Prop:=
 ∀(pins:List (Addr × Obj)) (s:Shared) (σ:St) (H:Hp) (v:V) (u:Value) (Q:St→Hp→Prop),Inv X pins σ H s→RelV v u→t v σ H Q→
  wpAny (model X.prog X.w) X.A (assign target X.env u) (fun _ s'=>∃σ' H',Inv X pins σ' H' s'∧Q σ' H') X.xe s
def PGs (X:Cx) (ts:List Expr) (t:TGs):Prop:=
 ∀(pins:List (Addr × Obj)) (s:Shared) (σ:St) (H:Hp) (vs:List V) (us:List Value) (Q:St→Hp→Prop),Inv X pins σ H s→Vals vs us→t vs σ H Q→
  wpAny (model X.prog X.w) X.A (assignInOrder ((assignEach ts X.env).map (·.2)) us) (fun _ s'=>∃σ' H',Inv X pins σ' H' s'∧Q σ' H') X.xe s
abbrev yE:=V→V→V→Hp→(Hp→Prop)→Prop
def zU (X:Cx) (t:yE):Prop:=
 ∀(pins:List (Addr × Obj)) (s:Shared) (σ:St) (H:Hp) (o i v:V) (ov iv u:Value) (Q:Hp→Prop),Inv X pins σ H s→RelV o ov→RelV i iv→RelV v u→t o i v H Q→
  wpAny (model X.prog X.w) X.A (setItem ov iv u) (fun _ s'=>∃H',Inv X pins σ H' s'∧Q H') X.xe s
section
variable {X:Cx} {pos:Pos}
def cF (i:Nat):TG:=fun v σ H Q=>Q (σ.set i (some v)) H
theorem wc {i:Nat} {x:Str} (hN:X.N.Nodup) (hi:X.N[i]? = some x) (hx:Loc X.env.scope x) (hf:X.fn x=true∨X.env.scope.names.lookup x=some .local:=by first | exact .inl rfl | exact .inr rfl | assumption):PG X (.Name x pos) (cF i):=by
 intro pins s σ H v u Q I r h;exact wpAny_assign_Name (eU I hN hi hx r (fun s' I'=>⟨_,H,I',h⟩) hf)
def zV:TGs:=fun vs σ H Q=>vs=[]∧Q σ H
def xP (t:TG) (u:TGs):TGs:=fun vs σ H Q=>∃v r,vs=v :: r∧t v σ H fun σ' H'=>u r σ' H' Q
theorem we:PGs X [] zV:=by
 intro pins s σ H vs us Q I r h;obtain ⟨e,h⟩:=h;subst e;cases r;exact assignInOrder_nil ⟨σ,H,I,h⟩
theorem tR {e:Expr} {es:List Expr} {t:TG} {u:TGs} (h1:PG X e t) (h2:PGs X es u)
  (hs:(assignEach (e :: es) X.env).map (·.2)=assign e X.env :: (assignEach es X.env).map (·.2):=by rfl):PGs X (e :: es) (xP t u):=by
 intro pins s σ H vs us Q I r h;obtain ⟨v,vr,e1,h⟩:=h;subst e1;cases r with
 | cons r rr=>
  rw [hs];refine assignInOrder_cons (thn (h1 pins s σ H _ _ _ I r h) fun _ s1 ⟨σ1,H1,I1,q1⟩=>?_);exact h2 pins s1 σ1 H1 _ _ Q I1 rr q1
def yF (K:PySem.W.Frag) (n:Nat) (t:TGs):TG:=fun v σ H Q=>∃a xs,v = .ref a∧SqT K H a xs∧xs.length=n∧t xs σ H Q
theorem yG {es:List Expr} {k:Nat} {t:TGs} {n:Nat} (hc:X.calm=true) (h:PGs X es t)
  (hn:(assignEach es X.env).length=n:=by rfl) (hst:(assignEach es X.env).findIdx? (·.1)=none:=by rfl):PG X (.Tuple es k pos) (yF X.K n t):=by
 intro pins s σ H v u Q I r hw;obtain ⟨a,xs,e1,hq,hl,hw⟩:=hw;subst e1;cases r;obtain ⟨its,rv,ht,hz⟩:=I.tuple hq;refine assign_Tuple_tuple (I.ok.hd hc) ht (by simp [hn,← hl,rv.length]) hst fun h' hx=>?_;have I1:Inv X pins σ H {s with heap:=h'}:=I.kept (t':=s.toks) fun b o e=>hx b o (Nat.ne_of_lt (Heap.lt_size e)) e;exact h pins _ σ H xs _ Q I1 (by simpa using rv) hw
def AL (to ti:TE) (t:yE):TG:=fun v σ H Q=>to σ H fun o H1=>ti σ H1 fun i H2=>t o i v H2 fun H3=>Q σ H3
theorem tS {o i:Expr} {to ti:TE} {t:yE} (ho:PE X o to) (hi:PE X i ti) (hs:zU X t)
  (ha:∀v,assign (.Subscript o i pos) X.env v=(do
   let ov ← holding [v] (eval o X.env)
   let iv ← holding [v,ov] (eval i X.env)
   standAt pos
   holding [v,ov,iv] (setItem ov iv v)
   release [v,ov,iv] []):=by intro _; rfl):PG X (.Subscript o i pos) (AL to ti t):=by
 intro pins s σ H v u Q I r h;rw [ha];refine wpAny_bind (wpAny_holding (thn (ho pins s σ H _ I h) fun ov s1 ⟨x,H1,I1,r1,q1⟩=>?_));refine wpAny_bind (wpAny_holding (thn (hi pins s1 σ H1 _ I1 q1) fun iv s2 ⟨y,H2,I2,r2,q2⟩=>?_));refine wpAny_bind (wpAny_standAt (wpAny_bind (wpAny_holding (thn (hs pins s2 σ H2 x y v ov iv u _ I2 r1 r2 r q2) fun _ s3 ⟨H3,I3,q3⟩=>?_))));exact wpAny_release ⟨σ,H3,I3,q3⟩
def wf (te:TE) (g:TG):TS:=fun D σ H=>te σ H fun x H1=>g x σ H1 D.nx
theorem pE {tg e:Expr} {te:TE} {g:TG} (he:PE X e te) (hg:PG X tg g) (hs:swapsWithSole [tg] e pos.line X.env=pure false:=by rfl) (hw:swappedStores [tg] e X.env=pure none:=by rfl)
  (h1:(assignEach [tg] X.env).map (·.2)=[assign tg X.env]:=by rfl):PS X (.Assign [tg] e pos) (wf te g):=by
 intro pins s σ H D I h;refine wpAny_Assign_stores (thn (he pins s σ H _ I h) fun v s1 ⟨x,H1,I1,r1,q1⟩=>?_) hs hw;rw [h1];exact thn (hg pins s1 σ H1 x v _ I1 r1 q1) fun _ s2 q=>q
theorem gy {i:Nat} {x:Str} {e:Expr} {te:TE} {pos':Pos} (hN:X.N.Nodup) (hi:X.N[i]? = some x) (hx:Loc X.env.scope x) (he:PE X e te) (hs:swapsWith e (some (.Name x pos')) pos.line X.env=pure false:=by rfl) (hf:X.fn x=true∨X.env.scope.names.lookup x=some .local:=by first | exact .inl rfl | exact .inr rfl | assumption) :
  PS X (.Assign [.Name x pos'] e pos) (wf te (cF i)):=by
 intro pins s σ H D I h;refine wpAny_Assign_Name (thn (he pins s σ H _ I h) fun v s1 ⟨y,H1,I1,r1,q1⟩=>?_) hs;exact eU I1 hN hi hx r1 (fun s2 I2=>⟨_,H1,I2,q1⟩) hf
def AM (i j:Nat) (ta:TA):TS:=fun D σ H=>ta σ H fun vs H1=>∃v w,vs=[v,w]∧D.nx ((σ.set i (some v)).set j (some w)) H1
theorem tT {i j:Nat} {x y:Str} {a b:Expr} {ta:TA} {px py pt:Pos} {kt k2 pt2} (hc:X.calm=true) (hN:X.N.Nodup) (hi:X.N[i]? = some x) (hj:X.N[j]? = some y) (hij:i≠j)
  (hx:X.env.scope.names.lookup x=some .local) (hy:X.env.scope.names.lookup y=some .local) (ha:PA X [a,b] ta)
  (hw:swappedStores [.Tuple [.Name x px,.Name y py] kt pt] (.Tuple [a,b] k2 pt2) X.env=pure (some [x,y]))
  (hs:swapsWithSole [.Tuple [.Name x px,.Name y py] kt pt] (.Tuple [a,b] k2 pt2) pos.line X.env=pure false:=by rfl) :
  PS X (.Assign [.Tuple [.Name x px,.Name y py] kt pt] (.Tuple [a,b] k2 pt2) pos) (AM i j ta):=by
 intro pins s σ H D I h;rw [exec_Assign_arm];refine wpAny_bind (wpAny_standAt ?_);rw [hs];refine wpAny_bind (wpAny_pure ?_);rw [if_neg (by decide)];refine wpAny_bind (Tuple_ (thn (ha _ pins s σ H _ I h) fun us s1 ⟨vs,H1,I1,r1,q1⟩=>?_));obtain ⟨v,w,e1,q1⟩:=q1;subst e1;obtain ⟨u1,u2,rfl,rv,rw'⟩:∃u1 u2,us=[u1,u2]∧RelV v u1∧RelV w u2:=by
  cases r1 with
  | cons p q=>
   cases q with
   | cons p' q'=>
    cases q';exact ⟨_,_,rfl,p,p'⟩
 refine wpAny_newObj_type ?_ (by show 2≤sizeLine; decide);have I2:Inv X pins σ H1 {s1 with heap:=s1.heap.push {cls:=.type "tuple",data:=.seq [u1,u2].toArray}}:=I1.kept (t':=s1.toks) fun b o e=>Heap.get?_push_of_some _ e;rw [hw];refine wpAny_bind (wpAny_pure ?_);show wpAny (model X.prog X.w) X.A (do rule "assign.swapped-stores"; let items ← unpackItems (.ref s1.heap.objs.size) 2 none; assignInOrder [fun v=>bindName X.env y v,fun v=>bindName X.env x v] items.reverse; pure Flow.next) _ _ _;refine wpAny_bind (wpAny_rule (wpAny_bind (unpackItems_tuple (items:=#[u1,u2]) (I.ok.hd hc) (IsTup.new s1.heap _) fun h' hx'=>?_)));have I3:=I2.kept (h':=h') (t':=s1.toks) fun b o e=>hx' b o (Nat.ne_of_lt (Heap.lt_size e)) e;show wpAny _ _ (assignInOrder [fun v=>bindName X.env y v,fun v=>bindName X.env x v] [u2,u1] >>= fun _=>pure Flow.next) _ _ _;refine wpAny_bind (assignInOrder_cons (wpAny_bindName (eU I3 hN hj (.inl hy) rw' (fun s2 I4=>?_) (.inr hy))));refine assignInOrder_cons (wpAny_bindName (eU I4 hN hi (.inl hx) rv (fun s3 I5=>assignInOrder_nil (wpAny_pure ?_)) (.inr hx)));rw [List.set_comm _ _ (Ne.symm hij)] at I5;exact ⟨_,H1,I5,q1⟩
def tU (c:TT) (tb:TS):TS:=fun D σ H=>∃W:Nat→St→Hp→Prop,(∃m,W m σ H)∧∀m σ H,W m σ H→
 c σ H fun b H1=>if b=true then ∃N:St→Hp→Prop,(∀σ' H',N σ' H'→∃m',m' < m∧W m' σ' H')∧tb {D with nx:=N,ct:=N,bk:=D.nx} σ H1 else D.nx σ H1
theorem nP {c:Expr} {body:List Stmt} {tc:TT} {tb:TS} (hp:PassesOwn (model X.prog X.w) X.A X.env X.xe) (hc:PT X c tc) (hb:PSs X body tb):PS X (.While c body [] pos) (tU tc tb):=by
 intro pins s σ H D I h;obtain ⟨W,⟨m0,w0⟩,turn⟩:=h;refine wpAny_While (codeAny_whileLoop (fun n s'=>∃σ' H',Inv X pins σ' H' s'∧W n σ' H') ?_ m0 ⟨σ,H,I,w0⟩);rintro n s1 ⟨σ1,H1,I1,w1⟩;refine wpAny_passesOwn hp (thn (hc pins s1 σ1 H1 _ I1 (turn n σ1 H1 w1)) fun b s2 ⟨H2,I2,q2⟩=>?_);cases b with
 | true=>
  obtain ⟨N,hN,q2⟩:=q2;rw [if_pos rfl];refine wpAny_passesOwn hp (thn (hb pins s2 σ1 H2 _ I2 q2) fun f s3 q3=>?_);cases f with
  | next=>
   obtain ⟨σ3,H3,I3,n3⟩:=q3;obtain ⟨m',hm,w3⟩:=hN σ3 H3 n3;exact ⟨m',hm,σ3,H3,I3,w3⟩
  | cont=>
   obtain ⟨σ3,H3,I3,n3⟩:=q3;obtain ⟨m',hm,w3⟩:=hN σ3 H3 n3;exact ⟨m',hm,σ3,H3,I3,w3⟩
  | brk=>exact q3
  | ret v=>exact q3
 | false=>
  rw [if_neg Bool.false_ne_true];exact wpAny_execs_nil ⟨σ1,H2,I2,q2⟩
end
structure It where
 go:Nat→Hp→Prop
 yld:Nat→Hp→V→Hp→Prop
 stop:Nat→Hp→Prop
def cX (X:Cx) (pins:List (Addr × Obj)) (H:Hp) (b:Addr):Prop:=
 H b=none∧b≠X.env.locals∧b∉X.fs∧(b∈X.ex∨X.s₀.heap.objs.size≤b)∧(∀x c,X.env.cells.lookup x=some c→c≠b)∧∀p∈X.pn ++ pins,p.1≠b
theorem Inv.fpOk {X:Cx} {pins:List (Addr × Obj)} {σ:St} {H H':Hp} {s:Shared} {b:Addr} (I:Inv X pins σ H s) (hb:s.heap.objs.size≤b) (hn:H' b=none):cX X pins H' b:=by
 refine ⟨hn,Nat.ne_of_gt (Nat.lt_of_lt_of_le I.lt hb),I.nofs hb,.inr (Nat.le_trans I.sz hb),fun x c e z=>?_,fun p hp z=>?_⟩
 ·obtain ⟨v,q⟩:=I.cell x c e;exact absurd (Nat.lt_of_lt_of_le q.lt (by rw [z]; exact hb)) (Nat.lt_irrefl _)
 ·exact absurd (Nat.lt_of_lt_of_le (Heap.lt_size (I.pin p hp).1) (by rw [z]; exact hb)) (Nat.lt_irrefl _)
structure Turn (P:Program) (w:World) (K:PySem.W.Frag) (tg:Expr) (J:It) (fp:List Addr) (it:Addr) (tn:Nat→Heap→Prop):Prop where
 mem:it∈fp
 obj:∀i h,tn i h→∀b∈fp,∃o,h.get? b=some o∧∀v,o.data≠.cell v
 keep:∀i h h',tn i h→(∀b∈fp,∀o,h.get? b=some o→h'.get? b=some o)→tn i h'
 item:∀(X:Cx),X.prog=P→X.w=w→X.K=K→X.calm=true→∀(i:Nat) (pins:List (Addr × Obj)) (s:Shared) (σ:St) (H:Hp) (E:Value→Shared→Prop),Inv X pins σ H s→(∀b∈fp,cX X pins H b)→tn i s.heap→J.go i H→
  wpAny (model P w) X.A (pyNext (.ref it)) (fun r s1=>∃u,r=some u∧
   wpAny (model P w) X.A (letOwnedTupleGo tg (.ref it) u) (fun _ s2=>∃x H',Inv X pins σ H' s2∧RelV x u∧J.yld i H x H'∧tn (i + 1) s2.heap∧∀b∈fp,H' b=none) E s1) E s
 done:∀(X:Cx),X.prog=P→X.w=w→X.K=K→X.calm=true→∀(i:Nat) (pins:List (Addr × Obj)) (s:Shared) (σ:St) (H:Hp) (E:Value→Shared→Prop),Inv X pins σ H s→(∀b∈fp,cX X pins H b)→tn i s.heap→J.stop i H→
  wpAny (model P w) X.A (pyNext (.ref it)) (fun r s1=>r=none∧Inv X pins σ H s1) E s
 self:∀(A:Around) (i:Nat) (s:Shared) (Q:Value→Shared→Prop) (E:Value→Shared→Prop),tn i s.heap→Q (.ref it) s→wpAny (model P w) A (pyIter (.ref it)) Q E s
abbrev TI:=St→Hp→(It→Hp→Prop)→Prop
def PIE (X:Cx) (pins:List (Addr × Obj)) (σ:St) (tg:Expr) (R:It→Hp→Prop) (itv:Value) (s2:Shared):Prop:=
 ∃(it:Addr) (fp:List Addr) (tn:Nat→Heap→Prop) (J:It) (H':Hp),itv = .ref it∧Inv X pins σ H' s2∧Turn X.prog X.w X.K tg J fp it tn∧tn 0 s2.heap∧(∀b∈fp,cX X pins H' b)∧R J H'
def PI (X:Cx) (tg iter:Expr) (wi:TI):Prop:=
 ∀(pins:List (Addr × Obj)) (s:Shared) (σ:St) (H:Hp) (R:It→Hp→Prop),Inv X pins σ H s→wi σ H R→
  wpAny (model X.prog X.w) X.A (eval iter X.env) (fun v s1=>wpAny (model X.prog X.w) X.A (pyIter v) (PIE X pins σ tg R) X.xe s1) X.xe s
theorem qv {M:Model} {A:Around} {E:Value→Shared→Prop} {s:Shared} {tg:Expr} {it:Addr} {u:Value} {o:Obj} {n:String} {vs:Array Value} {Q:Unit→Shared→Prop} (ho:s.heap.get? it=some o) (hc:o.cls = .type n) (hd:o.data = .fields vs)
    (hn:["enumerate","zip","dict_itemiterator","dict_reverseitemiterator","odict_iterator","itertools.zip_longest","itertools.pairwise"].contains n=false) (hQ:Q () s):wpAny M A (letOwnedTupleGo tg (.ref it) u) Q E s:=by
  unfold letOwnedTupleGo;cases tg <;> first
    | exact wpAny_pure hQ
    | (cases u <;> first
        | exact wpAny_pure hQ
        | (refine wpAny_bind (wpAny_load ho ?_)
           rw [hc,hd];show wpAny M A (if (["enumerate","zip","dict_itemiterator","dict_reverseitemiterator","odict_iterator","itertools.zip_longest","itertools.pairwise"].contains n && vs[0]? == some (rawInt _))=true then _ else _) Q E s;rw [if_neg (by intro h; rw [hn,Bool.false_and] at h; cases h)];exact wpAny_pure hQ))
def Itl (K:PySem.W.Frag) (a:Addr):It:=
 ⟨fun i H=>∃xs x,SqL K H a xs∧xs[i]? = some x,fun i H x H'=>H'=H∧∀xs,SqL K H a xs→xs[i]? = some x,fun i H=>∃xs,SqL K H a xs∧xs.length≤i⟩
def Itt (K:PySem.W.Frag) (a:Addr):It:=
 ⟨fun i H=>∃xs x,SqT K H a xs∧xs[i]? = some x,fun i H x H'=>H'=H∧∀xs,SqT K H a xs→xs[i]? = some x,fun i H=>∃xs,SqT K H a xs∧xs.length≤i⟩
def Itr (lo:Int) (n:Nat):It:=⟨fun i _=>i < n,fun i H x H'=>H'=H∧x = .int (lo + i),fun i _=>n≤i⟩
theorem rM {P:Program} {w:World} {K:PySem.W.Frag} {tg:Expr} (a it:Addr):Turn P w K tg (Itl K a) [it] it (fun i h=>h.IsListIter it a i) where
 mem:=by simp
 obj:=fun i h st b hb=>by
  have e:b=it:=by simpa using hb
  subst e;obtain ⟨o,e,c,d⟩:=st;exact ⟨o,e,fun v z=>by rw [d] at z; cases z⟩
 keep:=fun i h h' st k=>st.at fun o e=>k it (by simp) o e
 item:=by
  intro X hP hw hK hc i pins s σ H E I hf st hg;subst hP hw hK;obtain ⟨xs,x,hq,hx⟩:=hg;obtain ⟨its,rv,p,hz⟩:=I.list hq;obtain ⟨u,hu,ru⟩:=rv.get hx;obtain ⟨f0,f1,f2,f3,f4,f5⟩:=hf it (by simp);refine wpAny_pyNext_list_item st p.isList (x:=u) (by simpa using hu) fun h' st' sb=>?_;have I1:Inv X pins σ H {s with heap:=h'}:=I.turned (t':=s.toks) (fun b o hb e=>(sb.2 b hb).trans e) f0 f1 f3 f4 f5;obtain ⟨o,e,c,d⟩:=id st';exact ⟨u,rfl,qv (s:={s with heap:=h'}) e c d (by decide) ⟨x,H,I1,ru,⟨rfl,fun ys hy=>by rw [I.list_inj hy hq]; exact hx⟩,st',fun b hb=>(hf b hb).1⟩⟩
 done:=by
  intro X hP hw hK hc i pins s σ H E I hf st hg;subst hP hw hK;obtain ⟨xs,hq,hx⟩:=hg;obtain ⟨its,rv,p,hz⟩:=I.list hq;obtain ⟨f0,f1,f2,f3,f4,f5⟩:=hf it (by simp);have hl:=rv.length;exact wpAny_pyNext_list_end (I.ok.hd hc) st p.isList (by simp; omega) fun h' eb=>⟨rfl,I.turned (t':=s.toks) (fun b o hb e=>eb b o hb e) f0 f1 f3 f4 f5⟩
 self:=fun _ _ _ _ _ st h=>wpAny_pyIter_listiter st h
theorem pF {P:Program} {w:World} {K:PySem.W.Frag} {tg:Expr} (a it:Addr):Turn P w K tg (Itt K a) [it] it (fun i h=>h.IsTupleIter it a i) where
 mem:=by simp
 obj:=fun i h st b hb=>by
  have e:b=it:=by simpa using hb
  subst e;obtain ⟨o,e,c,d⟩:=st;exact ⟨o,e,fun v z=>by rw [d] at z; cases z⟩
 keep:=fun i h h' st k=>st.at fun o e=>k it (by simp) o e
 item:=by
  intro X hP hw hK hc i pins s σ H E I hf st hg;subst hP hw hK;obtain ⟨xs,x,hq,hx⟩:=hg;obtain ⟨its,rv,p,hz⟩:=I.tuple hq;obtain ⟨u,hu,ru⟩:=rv.get hx;obtain ⟨f0,f1,f2,f3,f4,f5⟩:=hf it (by simp);refine wpAny_pyNext_tuple_item st (show s.heap.IsTuple a its.toArray from p) (x:=u) (by simpa using hu) fun h' st' sb=>?_;have I1:Inv X pins σ H {s with heap:=h'}:=I.turned (t':=s.toks) (fun b o hb e=>(sb.2 b hb).trans e) f0 f1 f3 f4 f5;obtain ⟨o,e,c,d⟩:=id st';exact ⟨u,rfl,qv (s:={s with heap:=h'}) e c d (by decide) ⟨x,H,I1,ru,⟨rfl,fun ys hy=>by rw [I.tuple_inj hy hq]; exact hx⟩,st',fun b hb=>(hf b hb).1⟩⟩
 done:=by
  intro X hP hw hK hc i pins s σ H E I hf st hg;subst hP hw hK;obtain ⟨xs,hq,hx⟩:=hg;obtain ⟨its,rv,p,hz⟩:=I.tuple hq;obtain ⟨f0,f1,f2,f3,f4,f5⟩:=hf it (by simp);have hl:=rv.length;exact wpAny_pyNext_tuple_end (I.ok.hd hc) st (show s.heap.IsTuple a its.toArray from p) (by simp; omega) fun h' eb=>⟨rfl,I.turned (t':=s.toks) (fun b o hb e=>eb b o hb e) f0 f1 f3 f4 f5⟩
 self:=fun _ _ _ _ _ st h=>wpAny_pyIter_tupleiter st h
theorem pH {P:Program} {w:World} {K:PySem.W.Frag} {tg:Expr} (it:Addr) (lo:Int) (n:Nat):Turn P w K tg (Itr lo n) [it] it (fun i h=>IsRangeIter h it (lo + (i:Nat) * 1) ((n:Int) - (i:Nat)) 1) where
 mem:=by simp
 obj:=fun i h st b hb=>by
  have e:b=it:=by simpa using hb
  subst e;exact ⟨_,st,fun v z=>by
   have z':Data.fields _=Data.cell v:=z;cases z'⟩
 keep:=fun i h h' st k=>k it (by simp) _ st
 item:=by
  intro X hP hw hK hc i pins s σ H E I hf st hg;subst hP hw hK;obtain ⟨f0,f1,f2,f3,f4,f5⟩:=hf it (by simp);have W:=Walks.range (prog:=X.prog) (w:=X.w) (I.ok.hd hc) it lo 1 n;refine W.item i s _ _ hg st fun v h' tk hv st' kk=>?_;obtain ⟨t,rfl⟩:=hv;have I1:Inv X pins σ H {s with heap:=h',toks:=tk}:=I.turned (fun b o hb e=>kk b o (by simpa using hb) e) f0 f1 f3 f4 f5;refine ⟨_,rfl,qv (s:={s with heap:=h',toks:=tk}) (n:="range_iterator") st' rfl rfl (by decide) ⟨.int (lo + i),H,I1,⟨t,?_⟩,⟨rfl,rfl⟩,st',fun b hb=>(hf b hb).1⟩⟩;rw [Int.mul_one]
 done:=by
  intro X hP hw hK hc i pins s σ H E I hf st hg;subst hP hw hK;obtain ⟨f0,f1,f2,f3,f4,f5⟩:=hf it (by simp);exact wpAny_pyNext_range_end (I.ok.hd hc) st (by have:n≤i:=hg; omega) fun h' eb=>⟨rfl,I.turned (t':=s.toks) (fun b o hb e=>eb b o hb e) f0 f1 f3 f4 f5⟩
 self:=fun _ _ _ _ _ st h=>wpAny_pyIter_rangeiter st h
section
variable {X:Cx} {tg:Expr}
def tV (K:PySem.W.Frag) (tl:TE):TI:=fun σ H R=>tl σ H fun x H1=>∃a,x = .ref a∧(∃xs,SqL K H1 a xs)∧R (Itl K a) H1
def zW (K:PySem.W.Frag) (tl:TE):TI:=fun σ H R=>tl σ H fun x H1=>∃a,x = .ref a∧(∃xs,SqT K H1 a xs)∧R (Itt K a) H1
theorem wg {l:Expr} {tl:TE} (hl:PE X l tl):PI X tg l (tV X.K tl):=by
 intro pins s σ H R I h;refine thn (hl pins s σ H _ I h) fun v s1 ⟨x,H1,I1,r1,q1⟩=>?_;obtain ⟨a,e,⟨xs,hq⟩,q⟩:=q1;subst e;cases r1;obtain ⟨its,rv,p,hz⟩:=I1.list hq;refine wpAny_pyIter_list p.isList ?_;refine ⟨s1.heap.objs.size,[s1.heap.objs.size],_,_,H1,rfl,I1.kept (t':=s1.toks) fun b o e=>Heap.get?_push_of_some _ e,rM a _,⟨_,Heap.get?_push_size _ rfl,rfl,rfl⟩,fun b hb=>?_,q⟩;have e:b=s1.heap.objs.size:=by simpa using hb
 subst e;exact I1.fpOk (Nat.le_refl _) (I1.hok.fresh (Nat.le_refl _))
theorem yH {l:Expr} {tl:TE} (hl:PE X l tl):PI X tg l (zW X.K tl):=by
 intro pins s σ H R I h;refine thn (hl pins s σ H _ I h) fun v s1 ⟨x,H1,I1,r1,q1⟩=>?_;obtain ⟨a,e,⟨xs,hq⟩,q⟩:=q1;subst e;cases r1;obtain ⟨its,rv,p,hz⟩:=I1.tuple hq;refine wpAny_pyIter_tuple (show s1.heap.IsTuple a its.toArray from p) ?_;refine ⟨s1.heap.objs.size,[s1.heap.objs.size],_,_,H1,rfl,I1.kept (t':=s1.toks) fun b o e=>Heap.get?_push_of_some _ e,pF a _,⟨_,Heap.get?_push_size _ rfl,rfl,rfl⟩,fun b hb=>?_,q⟩;have e:b=s1.heap.objs.size:=by simpa using hb
 subst e;exact I1.fpOk (Nat.le_refl _) (I1.hok.fresh (Nat.le_refl _))
theorem nQ {pins:List (Addr × Obj)} {σ:St} {H:Hp} {s:Shared} {R:It→Hp→Prop} {E:Value→Shared→Prop} {lo hi:Int} {t u v:Tok} {tk:Nat} (I:Inv X pins σ H s) (h1:-(2 ^ 62)≤lo) (h2:lo < 2 ^ 62) (h3:-(2 ^ 62)≤hi) (h4:hi < 2 ^ 62)
  (q:R (Itr lo (hi - lo).toNat) H):wpAny (model X.prog X.w) X.A (pyIter (.ref s.heap.objs.size)) (PIE X pins σ tg R) E {s with heap:=s.heap.push {cls:=.type "range",data:=.fields #[.int lo t,.int hi u,.int 1 v]},toks:=tk}:=by
 refine wpAny_pyIter_range (IsRange.new ..) (small_one h1 h2 h3 h4) ?_;have I1:Inv X pins σ H {s with heap:=s.heap.push {cls:=.type "range",data:=.fields #[.int lo t,.int hi u,.int 1 v]},toks:=tk}:=I.kept fun b o e=>Heap.get?_push_of_some _ e;refine ⟨(s.heap.push {cls:=.type "range",data:=.fields #[.int lo t,.int hi u,.int 1 v]}).objs.size,[(s.heap.push {cls:=.type "range",data:=.fields #[.int lo t,.int hi u,.int 1 v]}).objs.size],_,_,H,rfl,
  I1.kept (t':=tk) fun b o e=>Heap.get?_push_of_some _ e,pH _ lo (hi - lo).toNat,?_,fun b hb=>?_,q⟩
 ·have e1:lo + ((0:Nat):Int) * 1=lo:=by simp
  have e2:(((hi - lo).toNat:Nat):Int) - ((0:Nat):Int)=Builtin.Range.rangeSize lo hi 1:=by rw [rangeSize_one]; split <;> omega
  show IsRangeIter _ _ (lo + ((0:Nat):Int) * 1) ((((hi - lo).toNat:Nat):Int) - ((0:Nat):Int)) 1;rw [e1,e2];exact Heap.get?_push_size _ rfl
 ·have e:b=(s.heap.push {cls:=.type "range",data:=.fields #[.int lo t,.int hi u,.int 1 v]}).objs.size:=by simpa using hb
  subst e;exact I1.fpOk (Nat.le_refl _) (I1.hok.fresh (Nat.le_refl _))
def xQ (ta:TA):TI:=fun σ H R=>ta σ H fun vs H1=>∃j:Int,vs=[.int j]∧-(2 ^ 62)≤j∧j < 2 ^ 62∧R (Itr 0 j.toNat) H1
def xR (ta:TA):TI:=fun σ H R=>ta σ H fun vs H1=>∃i j:Int,vs=[.int i,.int j]∧(-(2 ^ 62)≤i∧i < 2 ^ 62∧-(2 ^ 62)≤j∧j < 2 ^ 62)∧R (Itr i (j - i).toNat) H1
theorem rN {a:Expr} {ta:TA} {p pos:Pos} (hg:Gl X "range") (hm:X.mg "range" = none) (ha:PA X [a] ta) (hs:starEach [a] X.env=[(false,eval a X.env)]:=by rfl):PI X tg (.Call (.Name "range" p) [a] [] pos) (xQ ta):=by
 intro pins s σ H R I h;refine Call_ (eO I hg hm boot_range (PyProof.Rows.callWith_type1 (thn (ha pos pins s σ H _ I h) fun us s1 ⟨vs,H1,I1,r1,q1⟩=>?_) hs rfl));obtain ⟨j,e,q1,q2,q⟩:=q1;subst e;cases r1 with
 | cons r rr=>
  cases rr;obtain ⟨t,rfl⟩:=r;exact call_range_1 (nQ I1 (by omega) (by omega) q1 q2 (by simpa using q))
theorem rO {a b:Expr} {ta:TA} {p pos:Pos} (hg:Gl X "range") (hm:X.mg "range" = none) (ha:PA X [a,b] ta) (hs:starEach [a,b] X.env=[(false,eval a X.env),(false,eval b X.env)]:=by rfl) (hs2:starEach [b] X.env=[(false,eval b X.env)]:=by rfl) :
  PI X tg (.Call (.Name "range" p) [a,b] [] pos) (xR ta):=by
 intro pins s σ H R I h;refine Call_ (eO I hg hm boot_range (PyProof.Rows.callWith_type1 (thn (ha pos pins s σ H _ I h) fun us s1 ⟨vs,H1,I1,r1,q1⟩=>?_) (by rw [hs,hs2]) (by rw [hs2]; rfl)));obtain ⟨i,j,e,⟨q1,q2,q3,q4⟩,q⟩:=q1;subst e;cases r1 with
 | cons r rr=>
  cases rr with
  | cons r' rr=>
   cases rr;obtain ⟨t,rfl⟩:=r;obtain ⟨t',rfl⟩:=r';exact call_range_2 (nQ I1 q1 q2 q3 q4 q)
def zX (wi:TI) (g:TG) (tb:TS):TS:=fun D σ H=>wi σ H fun J H1=>∃W:Nat→Nat→St→Hp→Prop,(∃m,W 0 m σ H1)∧∀i m σ H,W i m σ H→
 (J.stop i H∧D.nx σ H)∨(J.go i H∧∃N:St→Hp→Prop,(∀σ' H',N σ' H'→∃m',m' < m∧W (i + 1) m' σ' H')∧∀x H',J.yld i H x H'→g x σ H' fun σ2 H2=>tb {D with nx:=N,ct:=N,bk:=D.nx} σ2 H2)
def i6 (fp:List Addr) (h:Heap):List (Addr × Obj):=fp.filterMap fun b=>(h.get? b).map fun o=>(b,o)
theorem cK {fp:List Addr} {h:Heap} {b:Addr} {o:Obj} (hb:b∈fp) (e:h.get? b=some o):(b,o)∈i6 fp h:=List.mem_filterMap.mpr ⟨b,hb,by rw [e]; rfl⟩
theorem rP {fp:List Addr} {h:Heap} {p:Addr × Obj} (hp:p∈i6 fp h):p.1∈fp∧h.get? p.1=some p.2:=by
 obtain ⟨b,hb,e⟩:=List.mem_filterMap.mp hp;cases q:h.get? b with
 | none=>rw [q] at e; cases e
 | some o=>
  rw [q] at e;have e':(b,o)=p:=Option.some.inj e;subst e';exact ⟨hb,q⟩
theorem Inv.pinned {pins:List (Addr × Obj)} {σ:St} {H:Hp} {s:Shared} {fp:List Addr} (I:Inv X pins σ H s) (hf:∀b∈fp,cX X pins H b) (ho:∀b∈fp,∃o,s.heap.get? b=some o∧∀v,o.data≠.cell v):Inv X (pins ++ i6 fp s.heap) σ H s:=
 I.pins_of fun p hp=>(List.mem_append.mp hp).elim (fun z=>I.pin p (List.mem_append_right _ z)) fun z=>by
  obtain ⟨hb,e⟩:=rP z;obtain ⟨f0,f1,f2,_⟩:=hf p.1 hb;obtain ⟨o,e',d⟩:=ho p.1 hb;rw [e] at e'; cases e';exact ⟨e,f0,f1,f2,d⟩
theorem Inv.unpinned {pins pl:List (Addr × Obj)} {σ:St} {H:Hp} {s:Shared} (I:Inv X (pins ++ pl) σ H s):Inv X pins σ H s:=I.pins_of fun p hp=>I.pin p (List.mem_append_right _ (List.mem_append_left _ hp))
theorem yI {iter:Expr} {body:List Stmt} {wi:TI} {g:TG} {tb:TS} {pos:Pos} (hp:PassesOwn (model X.prog X.w) X.A X.env X.xe) (hc:X.calm=true) (hi:PI X tg iter wi) (hg:PG X tg g) (hb:PSs X body tb)
  (hs:∀x,foldedSetIterable iter X.env x=pure x:=by intro _; rfl):PS X (.For tg iter body [] pos) (zX wi g tb):=by
 intro pins s σ H D I h;refine wpAny_For (thn (hi pins s σ H _ I h) fun v s1 h1=>thn h1 fun itv s2 h2=>?_) hs;obtain ⟨it,fp,tn,J,H2,e,I2,T,st2,f2,W,⟨m0,w0⟩,turn⟩:=h2;subst e;have stat:∀{H':Hp},(∀b∈fp,H' b=none)→∀b∈fp,cX X pins H' b:=fun hn b hb=>⟨hn b hb,(f2 b hb).2⟩;refine codeAny_forLoop_any (fun n s'=>∃i σ' H',Inv X pins σ' H' s'∧tn i s'.heap∧(∀b∈fp,H' b=none)∧W i n σ' H') ?_ m0 ⟨0,σ,H2,I2,st2,fun b hb=>(f2 b hb).1,w0⟩;rintro n s3 ⟨i,σ3,H3,I3,st3,fr3,w3⟩;rcases turn i n σ3 H3 w3 with ⟨stop,qn⟩ | ⟨go,N,hN,step⟩
 ·refine wpAny_passesOwn hp (thn (T.done X rfl rfl rfl hc i pins s3 σ3 H3 X.xe I3 (stat fr3) st3 stop) fun r s4 ⟨hr,I4⟩=>?_);subst hr;exact wpAny_execs_nil ⟨σ3,H3,I4,qn⟩
 ·refine wpAny_passesOwn hp (thn (T.item X rfl rfl rfl hc i pins s3 σ3 H3 X.xe I3 (stat fr3) st3 go) fun r s4 ⟨u,hr,h4⟩=>?_);subst hr;refine wpAny_passesOwn hp (thn h4 fun _ s5 ⟨x,H5,I5,r5,y5,st5,fr5⟩=>?_);have I5':=I5.pinned (stat fr5) (T.obj _ _ st5);refine wpAny_passesOwn hp (thn (hg _ s5 σ3 H5 x u _ I5' r5 (step x H5 y5)) fun _ s6 ⟨σ6,H6,I6,q6⟩=>?_);refine wpAny_passesOwn hp (thn (hb _ s6 σ6 H6 _ I6 q6) fun f s7 q7=>?_);have again:∀{σ7:St} {H7:Hp},Inv X (pins ++ i6 fp s5.heap) σ7 H7 s7→N σ7 H7→∃m,m < n∧∃i σ' H',Inv X pins σ' H' s7∧tn i s7.heap∧(∀b∈fp,H' b=none)∧W i m σ' H':=fun {σ7 H7} I7 n7=>by
   obtain ⟨m',hm,w7⟩:=hN σ7 H7 n7;refine ⟨m',hm,i + 1,σ7,H7,I7.unpinned,T.keep _ _ _ st5 fun b hb o e=>(I7.pin (b,o) (List.mem_append_right _ (List.mem_append_right _ (cK hb e)))).1,fun b hb=>?_,w7⟩;obtain ⟨o,e,d⟩:=T.obj _ _ st5 b hb;exact (I7.pin (b,o) (List.mem_append_right _ (List.mem_append_right _ (cK hb e)))).2.1
  cases f with
  | next=>obtain ⟨σ7,H7,I7,n7⟩:=q7; exact again I7 n7
  | cont=>obtain ⟨σ7,H7,I7,n7⟩:=q7; exact again I7 n7
  | brk=>obtain ⟨σ7,H7,I7,q7⟩:=q7; exact ⟨σ7,H7,I7.unpinned,q7⟩
  | ret v=>obtain ⟨x7,σ7,H7,I7,r7,q7⟩:=q7; exact ⟨x7,σ7,H7,I7.unpinned,r7,q7⟩
end
theorem dA {K:PySem.W.Frag} {a:Addr} {xs:List V} {g:TG} {tb:TS} {D:Ends} {σ:St} {H:Hp} (Pv:Nat→St→Hp→Prop) (h0:Pv 0 σ H) (hl:∀i σ H,i≤xs.length→Pv i σ H→SqL K H a xs)
  (hs:∀i x σ H,xs[i]? = some x→Pv i σ H→g x σ H fun σ2 H2=>tb {D with nx:=Pv (i + 1),ct:=Pv (i + 1),bk:=D.nx} σ2 H2) (hd:∀σ H,Pv xs.length σ H→D.nx σ H) :
  ∃W:Nat→Nat→St→Hp→Prop,(∃m,W 0 m σ H)∧∀i m σ H,W i m σ H→
   ((Itl K a).stop i H∧D.nx σ H)∨((Itl K a).go i H∧∃N:St→Hp→Prop,(∀σ' H',N σ' H'→∃m',m' < m∧W (i + 1) m' σ' H')∧∀x H',(Itl K a).yld i H x H'→g x σ H' fun σ2 H2=>tb {D with nx:=N,ct:=N,bk:=D.nx} σ2 H2):=by
 refine ⟨fun i m σ H=>m=xs.length - i∧i≤xs.length∧Pv i σ H,⟨xs.length,by simp,Nat.zero_le _,h0⟩,?_⟩;rintro i m σ H ⟨rfl,hi,p⟩;have q:=hl i σ H hi p
 by_cases hlt:i < xs.length
 ·refine .inr ⟨⟨xs,xs[i],q,by simp [hlt]⟩,Pv (i + 1),fun σ' H' p'=>⟨xs.length - (i + 1),by omega,rfl,hlt,p'⟩,fun x H' y=>?_⟩;obtain ⟨e,y⟩:=y;subst e;exact hs i x σ _ (y xs q) p
 ·have e:i=xs.length:=by omega
  subst e;exact .inl ⟨⟨xs,q,Nat.le_refl _⟩,hd σ H p⟩
theorem dn {lo:Int} {n:Nat} {g:TG} {tb:TS} {D:Ends} {σ:St} {H:Hp} (Pv:Nat→St→Hp→Prop) (h0:Pv 0 σ H)
  (hs:∀i σ H,i < n→Pv i σ H→g (.int (lo + i)) σ H fun σ2 H2=>tb {D with nx:=Pv (i + 1),ct:=Pv (i + 1),bk:=D.nx} σ2 H2) (hd:∀σ H,Pv n σ H→D.nx σ H) :
  ∃W:Nat→Nat→St→Hp→Prop,(∃m,W 0 m σ H)∧∀i m σ H,W i m σ H→
   ((Itr lo n).stop i H∧D.nx σ H)∨((Itr lo n).go i H∧∃N:St→Hp→Prop,(∀σ' H',N σ' H'→∃m',m' < m∧W (i + 1) m' σ' H')∧∀x H',(Itr lo n).yld i H x H'→g x σ H' fun σ2 H2=>tb {D with nx:=N,ct:=N,bk:=D.nx} σ2 H2):=by
 refine ⟨fun i m σ H=>m=n - i∧i≤n∧Pv i σ H,⟨n,by simp,Nat.zero_le _,h0⟩,?_⟩;rintro i m σ H ⟨rfl,hi,p⟩
 by_cases hlt:i < n
 ·refine .inr ⟨hlt,Pv (i + 1),fun σ' H' p'=>⟨n - (i + 1),by omega,rfl,hlt,p'⟩,fun x H' y=>?_⟩;obtain ⟨e,y⟩:=y;subst e y;exact hs i σ _ hlt p
 ·have e:i=n:=by omega
  subst e;exact .inl ⟨Nat.le_refl _,hd σ H p⟩
theorem nR {c:TT} {tb:TS} {D:Ends} {σ:St} {H:Hp} (Pv:St→Hp→Prop) (μ:St→Hp→Nat) (h0:Pv σ H)
  (hs:∀σ H,Pv σ H→c σ H fun b H1=>if b=true then tb {D with nx:=fun σ' H'=>Pv σ' H'∧μ σ' H' < μ σ H,ct:=fun σ' H'=>Pv σ' H'∧μ σ' H' < μ σ H,bk:=D.nx} σ H1 else D.nx σ H1)
  (mono:∀σ H Q Q',(∀b H1,Q b H1→Q' b H1)→c σ H Q→c σ H Q'):tU c tb D σ H:=by
 refine ⟨fun m σ H=>m=μ σ H∧Pv σ H,⟨_,rfl,h0⟩,?_⟩;rintro m σ H ⟨rfl,p⟩;refine mono σ H _ _ (fun b H1 q=>?_) (hs σ H p);cases b with
 | true=>exact ⟨_,fun σ' H' ⟨p',l⟩=>⟨_,l,rfl,p'⟩,q⟩
 | false=>exact q
abbrev R2:=V→V→Hp→VK→Prop
def OpR (X:Cx) (f:Value→Value→Sem Value) (r:R2):Prop:=
 ∀(pins:List (Addr × Obj)) (s:Shared) (σ:St) (H:Hp) (x y:V) (v u:Value) (Q:VK),Inv X pins σ H s→RelV x v→RelV y u→r x y H Q→
  wpAny (model X.prog X.w) X.A (f v u) (EP X pins σ Q) X.xe s
def UnR (X:Cx) (f:Value→Sem Value) (r:V→Hp→VK→Prop):Prop:=
 ∀(pins:List (Addr × Obj)) (s:Shared) (σ:St) (H:Hp) (x:V) (v:Value) (Q:VK),Inv X pins σ H s→RelV x v→r x H Q→
  wpAny (model X.prog X.w) X.A (f v) (EP X pins σ Q) X.xe s
def dl (X:Cx) (f:Value) (r:List V→Hp→VK→Prop):Prop:=
 ∀(pins:List (Addr × Obj)) (s:Shared) (σ:St) (H:Hp) (xs:List V) (us:List Value) (Q:VK),Inv X pins σ H s→Vals xs us→r xs H Q→
  wpAny (model X.prog X.w) X.A (call f us) (EP X pins σ Q) X.xe s
def AN (X:Cx) (r:V→Hp→(Bool→Hp→Prop)→Prop):Prop:=
 ∀(pins:List (Addr × Obj)) (s:Shared) (σ:St) (H:Hp) (x:V) (v:Value) (Q:Bool→Hp→Prop),Inv X pins σ H s→RelV x v→r x H Q→
  wpAny (model X.prog X.w) X.A (truthy v) (TP X pins σ Q) X.xe s
def tOp (r:R2) (ta tb:TE):TE:=fun σ H Q=>ta σ H fun x H1=>tb σ H1 fun y H2=>r x y H2 Q
def tUn (r:V→Hp→VK→Prop) (ta:TE):TE:=fun σ H Q=>ta σ H fun x H1=>r x H1 Q
def rI (C:Int→Int→Prop) (g:Int→Int→V):R2:=fun x y H Q=>∃i j,x = .int i∧y = .int j∧C i j∧Q (g i j) H
def rI0 (g:Int→Int→V):R2:=fun x y H Q=>∃i j,x = .int i∧y = .int j∧Q (g i j) H
def rU (g:Int→V):V→Hp→VK→Prop:=fun x H Q=>∃i,x = .int i∧Q (g i) H
section
variable {X:Cx} {a b c:Expr} {ta tb tc:TE} {pos:Pos}
theorem yJ (ha:PE X a ta) (hb:PE X b tb) {pins:List (Addr × Obj)} {s:Shared} {σ:St} {H:Hp} {R:V→V→Hp→Prop} (I:Inv X pins σ H s)
  (h:ta σ H fun x H1=>tb σ H1 fun y H2=>R x y H2) {Q:Value→Shared→Prop} {f:Value→Value→Sem Value}
  (hf:∀v u s2 x y H2,Inv X pins σ H2 s2→RelV x v→RelV y u→R x y H2→wpAny (model X.prog X.w) X.A (f v u) Q X.xe s2) :
  wpAny (model X.prog X.w) X.A (eval a X.env) (fun v s₁=>wpAny (model X.prog X.w) X.A (eval b X.env) (fun u s₂=>wpAny (model X.prog X.w) X.A (f v u) Q X.xe s₂) X.xe s₁) X.xe s:=by
 refine thn (ha pins s σ H _ I h) fun v s1 ⟨x,H1,I1,r1,q1⟩=>?_;refine thn (hb pins s1 σ H1 _ I1 q1) fun u s2 ⟨y,H2,I2,r2,q2⟩=>?_;exact hf v u s2 x y H2 I2 r1 r2 q2
theorem cR {op:Operator} {r:R2} (ho:OpR X (binaryOp op) r) (ha:PE X a ta) (hb:PE X b tb):PE X (.BinOp a op b pos) (tOp r ta tb):=by
 intro pins s σ H Q I h;exact wpAny_BinOp (yJ ha hb I h fun v u s2 x y H2 I2 rx ry q=>ho pins s2 σ H2 x y v u Q I2 rx ry q)
theorem xS {op:UnaryOp} {r:V→Hp→VK→Prop} (ho:UnR X (unaryOp op) r) (ha:PE X a ta):PE X (.UnaryOp op a pos) (tUn r ta):=by
 intro pins s σ H Q I h;exact UnaryOp_ (thn (ha pins s σ H _ I h) fun v s1 ⟨x,H1,I1,r1,q1⟩=>ho pins s1 σ H1 x v Q I1 r1 q1)
theorem opI {f:Value→Value→Sem Value} {C:Int→Int→Prop} {g:Int→Int→Int}
  (rule:∀(i j:Int) (t u:Tok) (s:Shared) (Q:Value→Shared→Prop) (E:Value→Shared→Prop),C i j→Q (.int (g i j) s.toks) {s with toks:=s.toks + 1}→wpAny (model X.prog X.w) X.A (f (.int i t) (.int j u)) Q E s) :
  OpR X f (rI C fun i j=>.int (g i j)):=by
 intro pins s σ H x y v u Q I rx ry h;obtain ⟨i,j,rfl,rfl,hc,q⟩:=h;obtain ⟨t,rfl⟩:=rx;obtain ⟨t',rfl⟩:=ry;exact rule i j t t' s _ _ hc ⟨.int (g i j),H,I.tok _,⟨_,rfl⟩,q⟩
theorem zY {f:Value→Value→Sem Value} {g:Int→Int→Int}
  (rule:∀(i j:Int) (t u:Tok) (s:Shared) (Q:Value→Shared→Prop) (E:Value→Shared→Prop),Q (.int (g i j) s.toks) {s with toks:=s.toks + 1}→wpAny (model X.prog X.w) X.A (f (.int i t) (.int j u)) Q E s) :
  OpR X f (rI0 fun i j=>.int (g i j)):=by
 intro pins s σ H x y v u Q I rx ry h;obtain ⟨i,j,rfl,rfl,q⟩:=h;obtain ⟨t,rfl⟩:=rx;obtain ⟨t',rfl⟩:=ry;exact rule i j t t' s _ _ ⟨.int (g i j),H,I.tok _,⟨_,rfl⟩,q⟩
theorem wj {f:Value→Value→Sem Value} {g:Int→Int→Bool}
  (rule:∀(i j:Int) (t u:Tok) (s:Shared) (Q:Value→Shared→Prop) (E:Value→Shared→Prop),Q (.bool (g i j)) s→wpAny (model X.prog X.w) X.A (f (.int i t) (.int j u)) Q E s) :
  OpR X f (rI0 fun i j=>.bl (g i j)):=by
 intro pins s σ H x y v u Q I rx ry h;obtain ⟨i,j,rfl,rfl,q⟩:=h;obtain ⟨t,rfl⟩:=rx;obtain ⟨t',rfl⟩:=ry;exact rule i j t t' s _ _ ⟨.bl (g i j),H,I,rfl,q⟩
def AO (i j:Int):Prop:=0 < j∧j < 1073741824
def AQ (i j:Int):Prop:=0≤j∧j≤1000000∧i.natAbs < 2 ^ 64
def CMul (i j:Int):Prop:=(-(2 ^ 64) < i∧i < 2 ^ 64)∨(-(2 ^ 64) < j∧j < 2 ^ 64)
theorem CMul.ok {i j:Int} (h:CMul i j):IntMulOk i j:=by
 rcases h with ⟨h1,h2⟩ | ⟨h1,h2⟩
 ·exact .of_left (intBits_le_64 h1 h2)
 ·exact .of_right (intBits_le_64 h1 h2)
theorem cB:OpR X (binaryOp .Add) (rI0 fun i j=>.int (i + j)):=zY fun _ _ _ _ _ _ _ q=>add_int q
theorem gz:OpR X (binaryOp .Sub) (rI0 fun i j=>.int (i - j)):=zY fun _ _ _ _ _ _ _ q=>sub_int q
theorem ip:OpR X (binaryOp .Mult) (rI CMul fun i j=>.int (i * j)):=opI fun _ _ _ _ _ _ _ hc q=>mul_int q hc.ok
theorem wk:OpR X (binaryOp .FloorDiv) (rI AO fun i j=>.int (i / j)):=opI fun i j _ _ _ _ _ hc q=>by
 have h1:(0:Int) < j:=hc.1;have h2:j < 1073741824:=hc.2;exact floordiv_int (by omega) (by rw [Int.fdiv_eq_ediv_of_nonneg i (by omega)]; exact q) (.inl (PyProof.noPylong_small (by omega)))
theorem eQ:OpR X (binaryOp .Mod) (rI (fun _ j=>0 < j) fun i j=>.int (i % j)):=opI fun i j _ _ _ _ _ hc q=>by
 have h1:(0:Int) < j:=hc;exact mod_int' (by omega) (by rw [Int.fmod_eq_emod_of_nonneg i (by omega)]; exact q)
theorem tW:OpR X (binaryOp .Pow) (rI AQ fun i j=>.int (i ^ j.toNat)):=opI fun _ _ _ _ _ _ _ hc q=>pow_int_small hc.1 hc.2.1 hc.2.2 q
theorem unI {f:Value→Sem Value} {g:Int→Int}
  (rule:∀(i:Int) (t:Tok) (s:Shared) (Q:Value→Shared→Prop) (E:Value→Shared→Prop),Q (.int (g i) s.toks) {s with toks:=s.toks + 1}→wpAny (model X.prog X.w) X.A (f (.int i t)) Q E s) :
  UnR X f (rU fun i=>.int (g i)):=by
 intro pins s σ H x v Q I rx h;obtain ⟨i,rfl,q⟩:=h;obtain ⟨t,rfl⟩:=rx;exact rule i t s _ _ ⟨.int (g i),H,I.tok _,⟨_,rfl⟩,q⟩
theorem i7:UnR X (unaryOp .USub) (rU fun i=>.int (-i)):=unI fun _ _ _ _ _ q=>neg_int q
end
def zZ:V→V→Bool
 | .non,.non=>true | .non,.int _=>true | .int _,.non=>true | .non,.bl _=>true | .bl _,.non=>true | .non,.str _=>true | .str _,.non=>true
 | .int _,.int _=>true | .bl _,.bl _=>true | .str _,.str _=>true | .byt _,.byt _=>true
 | .int _,.str _=>true | .str _,.int _=>true | .bl _,.str _=>true | .str _,.bl _=>true
 | _,_=>false
def rEq:R2:=fun x y H Q=>zZ x y=true∧Q (.bl (decide (x=y))) H
def rNe:R2:=fun x y H Q=>zZ x y=true∧Q (.bl (!decide (x=y))) H
theorem qw {i j:Int}:decide (V.int i=V.int j)=(i == j):=by
 rw [Bool.eq_iff_iff];simp
theorem tX {i j:Bool}:decide (V.bl i=V.bl j)=(i == j):=by
 rw [Bool.eq_iff_iff];simp
theorem qx {i j:Str}:decide (V.str i=V.str j)=(i == j):=by
 rw [Bool.eq_iff_iff];simp
theorem qy {i j:Array UInt8}:decide (V.byt i=V.byt j)=(i.toList == j.toList):=by
 rw [Bool.eq_iff_iff];cases i;cases j;simp
section
variable {X:Cx} {a b c:Expr} {ta tb tc:TE} {pos:Pos}
theorem bb {pins:List (Addr × Obj)} {σ:St} {H:Hp} {s:Shared} {Q:VK} {k k':Bool} (I:Inv X pins σ H s) (q:Q (.bl k) H) (e:k=k'):EP X pins σ Q (.bool k') s:=by
 subst e;exact ⟨.bl k,H,I,rfl,q⟩
theorem cz:OpR X (compareOp .Eq) rEq:=by
 intro pins s σ H x y v u Q I rx ry h;obtain ⟨hs,q⟩:=h;cases x with
 | non=>
  cases rx;cases y with
  | non=>cases ry; exact PySem.EqNone.eq_none_none (bb I q (by simp))
  | bl j=>cases ry; exact PySem.EqNone.eq_none_bool (bb I q (by simp))
  | int j=>obtain ⟨t',rfl⟩:=ry; exact PySem.EqNone.eq_none_int (bb I q (by simp))
  | str j=>obtain ⟨t',rfl⟩:=ry; exact PySem.EqNone.eq_none_str (bb I q (by simp))
  | _=>exact absurd (show false=true from hs) Bool.false_ne_true
 | bl i=>
  cases rx;cases y with
  | non=>cases ry; exact PySem.EqNone.eq_bool_none (bb I q (by simp))
  | bl j=>cases ry; exact eq_bool (bb I q tX)
  | str j=>obtain ⟨t',rfl⟩:=ry; exact PySem.EqMixed.eq_bool_str (bb I q (by simp))
  | _=>exact absurd (show false=true from hs) Bool.false_ne_true
 | int i=>
  obtain ⟨t,rfl⟩:=rx;cases y with
  | non=>cases ry; exact PySem.EqNone.eq_int_none (bb I q (by simp))
  | int j=>obtain ⟨t',rfl⟩:=ry; exact eq_int (bb I q qw)
  | str j=>obtain ⟨t',rfl⟩:=ry; exact PySem.EqMixed.eq_int_str (bb I q (by simp))
  | _=>exact absurd (show false=true from hs) Bool.false_ne_true
 | str i=>
  obtain ⟨t,rfl⟩:=rx;cases y with
  | non=>cases ry; exact PySem.EqNone.eq_str_none (bb I q (by simp))
  | bl j=>cases ry; exact PySem.EqMixed.eq_str_bool (bb I q (by simp))
  | int j=>obtain ⟨t',rfl⟩:=ry; exact PySem.EqMixed.eq_str_int (bb I q (by simp))
  | str j=>obtain ⟨t',rfl⟩:=ry; exact eq_str (bb I q qx)
  | _=>exact absurd (show false=true from hs) Bool.false_ne_true
 | byt i=>
  obtain ⟨t,rfl⟩:=rx;cases y with
  | byt j=>obtain ⟨t',rfl⟩:=ry; exact PySem.W.eq_bytes (bb I q qy)
  | _=>exact absurd (show false=true from hs) Bool.false_ne_true
 | _=>cases y <;> exact absurd (show false=true from hs) Bool.false_ne_true
theorem kQ:OpR X (compareOp .NotEq) rNe:=by
 intro pins s σ H x y v u Q I rx ry h;obtain ⟨hs,q⟩:=h;cases x with
 | non=>
  cases rx;cases y with
  | non=>cases ry; exact PySem.EqNone.ne_none_none (bb I q (by simp))
  | bl j=>cases ry; exact PySem.EqNone.ne_none_bool (bb I q (by simp))
  | int j=>obtain ⟨t',rfl⟩:=ry; exact PySem.EqNone.ne_none_int (bb I q (by simp))
  | str j=>obtain ⟨t',rfl⟩:=ry; exact PySem.EqNone.ne_none_str (bb I q (by simp))
  | _=>exact absurd (show false=true from hs) Bool.false_ne_true
 | bl i=>
  cases rx;cases y with
  | non=>cases ry; exact PySem.EqNone.ne_bool_none (bb I q (by simp))
  | bl j=>cases ry; exact ne_bool (bb I q (congrArg not tX))
  | str j=>obtain ⟨t',rfl⟩:=ry; exact PySem.EqMixed.ne_bool_str (bb I q (by simp))
  | _=>exact absurd (show false=true from hs) Bool.false_ne_true
 | int i=>
  obtain ⟨t,rfl⟩:=rx;cases y with
  | non=>cases ry; exact PySem.EqNone.ne_int_none (bb I q (by simp))
  | int j=>obtain ⟨t',rfl⟩:=ry; exact ne_int (bb I q (congrArg not qw))
  | str j=>obtain ⟨t',rfl⟩:=ry; exact PySem.EqMixed.ne_int_str (bb I q (by simp))
  | _=>exact absurd (show false=true from hs) Bool.false_ne_true
 | str i=>
  obtain ⟨t,rfl⟩:=rx;cases y with
  | non=>cases ry; exact PySem.EqNone.ne_str_none (bb I q (by simp))
  | bl j=>cases ry; exact PySem.EqMixed.ne_str_bool (bb I q (by simp))
  | int j=>obtain ⟨t',rfl⟩:=ry; exact PySem.EqMixed.ne_str_int (bb I q (by simp))
  | str j=>obtain ⟨t',rfl⟩:=ry; exact ne_str (bb I q (congrArg not qx))
  | _=>exact absurd (show false=true from hs) Bool.false_ne_true
 | byt i=>
  obtain ⟨t,rfl⟩:=rx;cases y with
  | byt j=>obtain ⟨t',rfl⟩:=ry; exact PySem.W.ne_bytes (bb I q (congrArg not qy))
  | _=>exact absurd (show false=true from hs) Bool.false_ne_true
 | _=>cases y <;> exact absurd (show false=true from hs) Bool.false_ne_true
theorem lf:OpR X (compareOp .Lt) (rI0 fun i j=>.bl (decide (i < j))):=wj fun _ _ _ _ _ _ _ q=>lt_int q
theorem qz:OpR X (compareOp .LtE) (rI0 fun i j=>.bl (decide (i≤j))):=wj fun _ _ _ _ _ _ _ q=>le_int q
theorem ii:OpR X (compareOp .Gt) (rI0 fun i j=>.bl (decide (j < i))):=wj fun _ _ _ _ _ _ _ q=>gt_int q
theorem z6:OpR X (compareOp .GtE) (rI0 fun i j=>.bl (decide (j≤i))):=wj fun _ _ _ _ _ _ _ q=>ge_int q
theorem rQ:OpR X (compareOp .In) (fun x y H Q=>∃i j,x = .str i∧y = .str j∧Q (.bl (!(Builtin.Str.occurrences j i 0 j.length 1).isEmpty)) H):=by
 intro pins s σ H x y v u Q I rx ry h;obtain ⟨i,j,rfl,rfl,q⟩:=h;obtain ⟨t,rfl⟩:=rx;obtain ⟨t',rfl⟩:=ry;exact in_str (bb I q rfl)
theorem yK:OpR X (compareOp .Is) (fun x y H Q=>y = .non∧Q (.bl (decide (x = .non))) H):=by
 intro pins s σ H x y v u Q I rx ry h;obtain ⟨rfl,q⟩:=h;cases ry;refine is_none_gen (bb I q ?_);cases x <;> first
  | (cases rx; rfl)
  | (obtain ⟨t,rfl⟩:=rx; rfl)
theorem qA:OpR X (compareOp .IsNot) (fun x y H Q=>y = .non∧Q (.bl (!decide (x = .non))) H):=by
 intro pins s σ H x y v u Q I rx ry h;obtain ⟨rfl,q⟩:=h;cases ry;refine isnot_none_gen (bb I q ?_);cases x <;> first
  | (cases rx; rfl)
  | (obtain ⟨t,rfl⟩:=rx; rfl)
theorem aG (b:Expr) {op:CmpOp} (h:op≠.In:=by decide) (h2:op≠.NotIn:=by decide):behindInMarks op b=false:=by
 have e1:(op == CmpOp.In)=false:=by cases op <;> first | rfl | exact absurd rfl h
 have e2:(op == CmpOp.NotIn)=false:=by cases op <;> first | rfl | exact absurd rfl h2
 cases b <;> simp [behindInMarks,e1,e2]
theorem qB {op:CmpOp} {r:R2} (ho:OpR X (compareOp op) r) (ha:PE X a ta) (hb:PE X b tb) (hm:behindInMarks op b=false):PE X (.Compare a [op] [b] pos) (tOp r ta tb):=by
 intro pins s σ H Q I h;exact wpAny_Compare1 (yJ ha hb I h fun v u s2 x y H2 I2 rx ry q=>ho pins s2 σ H2 x y v u Q I2 rx ry q) hm
def qC (t:TE):TT:=fun σ H Q=>t σ H fun x H'=>∃k,x = .bl k∧Q k H'
theorem jz {op:CmpOp} {r:R2} (ho:OpR X (compareOp op) r) (ha:PE X a ta) (hb:PE X b tb) (hm:behindInMarks op b=false):PT X (.Compare a [op] [b] pos) (qC (tOp r ta tb)):=by
 intro pins s σ H Q I h;refine wpAny_isTrue_Compare1 (thn (ha pins s σ H _ I h) fun v s1 ⟨x,H1,I1,r1,q1⟩=>thn (hb pins s1 σ H1 _ I1 q1) fun u s2 ⟨y,H2,I2,r2,q2⟩=>
  thn (ho pins s2 σ H2 x y v u _ I2 r1 r2 q2) fun c s3 ⟨z,H3,I3,r3,k,e,q3⟩=>?_) hm
 subst e;cases r3;exact wpAny_truthy_bool ⟨H3,I3,q3⟩
def tY (r r':R2) (ta tb tc:TE):TE:=fun σ H Q=>ta σ H fun x H1=>tb σ H1 fun y H2=>r x y H2 fun z H3=>∃k,z = .bl k∧
 (if k=true then tc σ H3 fun w' H4=>r' y w' H4 Q else Q (.bl false) H3)
theorem tZ {op op':CmpOp} {r r':R2} (ho:OpR X (compareOp op) r) (ho':OpR X (compareOp op') r') (ha:PE X a ta) (hb:PE X b tb) (hc:PE X c tc)
  (hm:lastMarks [op,op'] [b,c]=false:=by with_unfolding_all rfl):PT X (.Compare a [op,op'] [b,c] pos) (qC (tY r r' ta tb tc)):=by
 intro pins s σ H Q I h;refine isTrue_chain (thn (ha pins s σ H _ I h) fun v s1 ⟨x,H1,I1,r1,q1⟩=>test_link (thn (hb pins s1 σ H1 _ I1 q1) fun u s2 ⟨y,H2,I2,r2,q2⟩=>
  thn (ho pins s2 σ H2 x y v u _ I2 r1 r2 q2) fun d s3 ⟨z,H3,I3,r3,k,e,q3⟩=>?_)) hm
 subst e;cases r3;refine wpAny_truthy_bool ?_;cases k with
 | false=>
  obtain ⟨k',e',q'⟩:=q3;cases e';exact ite_ff ⟨H3,I3,q'⟩
 | true=>
  refine ite_tt (test_last (thn (hc pins s3 σ H3 _ I3 q3) fun w' s4 ⟨z',H4,I4,r4,q4⟩=>thn (ho' pins s4 σ H4 y z' u w' _ I4 r2 r4 q4) fun d' s5 ⟨z2,H5,I5,r5,k2,e2,q5⟩=>?_));subst e2;cases r5;exact wpAny_truthy_bool ⟨H5,I5,q5⟩
def yL (K:PySem.W.Frag) (x:V) (H:Hp) (k:Bool):Prop:=
 match x with
 | .non=>k=false
 | .bl b=>k=b
 | .int i=>k=(i != 0)
 | .str y=>y.length≤sizeLine∧k=((y.length:Int) != 0)
 | .byt y=>y.size≤sizeLine∧k=((y.size:Int) != 0)
 | .ref p=>(∃xs,SqL K H p xs∧k = !xs.isEmpty)∨(∃xs,SqT K H p xs∧k = !xs.isEmpty)∨∃kvs,H p=some (.dK kvs)∧k = !kvs.isEmpty
 | _=>False
theorem pI {κ:Type} {kvs:List (κ × V)} {vs:List (κ × Value)} (r:KV kvs vs):(!vs.isEmpty) = !kvs.isEmpty:=by
 cases r <;> rfl
theorem jM {xs:List V} {its:List Value} (r:Vals xs its):(!its.toArray.isEmpty) = !xs.isEmpty:=by
 cases r <;> simp
theorem iq:(sizeLine:Nat) < 2 ^ 63:=by rw [sizeLine_eq]; decide
theorem yM:AN X (fun x H Q=>∃k,yL X.K x H k∧Q k H):=by
 intro pins s σ H x v Q I rx h;obtain ⟨k,e,q⟩:=h;have hl:=iq;have hs:sizeLine=16777216:=sizeLine_eq;cases x with
 | non=>
  cases rx;have e':k=false:=e;subst e';exact truthy_none ⟨H,I,q⟩
 | bl b=>
  cases rx;have e':k=b:=e;subst e';exact wpAny_truthy_bool ⟨H,I,q⟩
 | int i=>
  obtain ⟨t,rfl⟩:=rx;have e':k=(i != 0):=e;subst e';exact PySem.P.truthy_int ⟨H,I,q⟩
 | str y=>
  obtain ⟨t,rfl⟩:=rx;obtain ⟨hy,e'⟩:y.length≤sizeLine∧k=((y.length:Int) != 0):=e;subst e';exact PySem.P.truthy_str (by omega) ⟨H,I.tok _,q⟩
 | byt y=>
  obtain ⟨t,rfl⟩:=rx;obtain ⟨hy,e'⟩:y.size≤sizeLine∧k=((y.size:Int) != 0):=e;subst e';exact PySem.W.truthy_bytes (by omega) ⟨H,I.tok _,q⟩
 | ref p=>
  cases rx;have e':(∃xs,SqL X.K H p xs∧k = !xs.isEmpty)∨(∃xs,SqT X.K H p xs∧k = !xs.isEmpty)∨∃kvs,H p=some (.dK kvs)∧k = !kvs.isEmpty:=e;rcases e' with ⟨xs,hx,e'⟩ | ⟨xs,hx,e'⟩ | ⟨kvs,hx,e'⟩
  ·subst e';obtain ⟨its,r,pl,hz⟩:=I.list hx;have hlen:=r.length;exact wpAny_truthy_list pl.isList (by simp only [List.size_toArray]; omega) ⟨H,I.tok _,by rw [jM r]; exact q⟩
  ·subst e';obtain ⟨its,r,pl,hz⟩:=I.tuple hx;have hlen:=r.length;exact truthy_tuple pl (by simp only [List.size_toArray]; omega) ⟨H,I.tok _,by rw [jM r]; exact q⟩
  ·subst e';obtain ⟨hz,hS,vs,r,m⟩:kvs.length≤sizeLine∧(p == sysModules)=false∧∃vs,KV kvs vs∧s.heap.DictOf (bu X.prog X.w) p vs:=I.hok p _ hx;have hlen:kvs.length=vs.length:=Paired.length r;exact wpAny_truthy_dict hS m (by omega) ⟨H,I.tok _,by rw [pI r]; exact q⟩
 | _=>exact (show False from e).elim
theorem ua (ha:PE X a ta) (he:∀whole,isTrue a X.env whole=(do let v ← whole; standAt a.pos; holding [v] (truthy v))) :
  PT X a (fun σ H Q=>ta σ H fun x H'=>∃k,yL X.K x H' k∧Q k H'):=by
 intro pins s σ H Q I h;exact isTrue_plain (thn (ha pins s σ H _ I h) fun v s1 ⟨x,H1,I1,r1,q1⟩=>yM pins s1 σ H1 x v Q I1 r1 q1) (he _)
theorem cM:OpR X (binaryOp .Add) (fun x y H Q=>∃i j,x = .str i∧y = .str j∧i.length + j.length≤sizeLine∧Q (.str (i ++ j)) H):=by
 intro pins s σ H x y v u Q I rx ry h;obtain ⟨i,j,rfl,rfl,hz,q⟩:=h;obtain ⟨t,rfl⟩:=rx;obtain ⟨t',rfl⟩:=ry;exact add_str (fun t' tk=>⟨.str (i ++ j),H,I.tok _,⟨_,rfl⟩,q⟩) hz
theorem vals1 {x:V} {us:List Value} (r:Vals [x] us):∃u,us=[u]∧RelV x u:=by
 cases r with
 | cons r1 r2=>cases r2; exact ⟨_,rfl,r1⟩
theorem vals2 {x y:V} {us:List Value} (r:Vals [x,y] us):∃u w',us=[u,w']∧RelV x u∧RelV y w':=by
 cases r with
 | cons r1 r2=>
  cases r2 with
  | cons r3 r4=>cases r4; exact ⟨_,_,rfl,r1,r3⟩
theorem iF:dl X (.builtin "abs") (fun xs H Q=>∃i,xs=[.int i]∧Q (.int (if i < 0 then -i else i)) H):=by
 intro pins s σ H xs us Q I r h;obtain ⟨i,rfl,q⟩:=h;obtain ⟨u,rfl,t,rfl⟩:=vals1 r;exact call_abs_int fun u tk=>⟨.int (if i < 0 then -i else i),H,I.tok _,⟨_,rfl⟩,q⟩
theorem lh (hc:X.calm=true):dl X (.builtin "max") (fun xs H Q=>∃i j,xs=[.int i,.int j]∧Q (.int (if j > i then j else i)) H):=by
 intro pins s σ H xs us Q I r h;obtain ⟨i,j,rfl,q⟩:=h;obtain ⟨u,w',rfl,⟨t,rfl⟩,⟨t',rfl⟩⟩:=vals2 r;refine max_two_ints (I.ok.hd hc) fun h' tk k=>⟨_,H,I.kept k,?_,q⟩
 by_cases hj:j > i
 ·rw [if_pos hj,if_pos hj]; exact ⟨_,rfl⟩
 ·rw [if_neg hj,if_neg hj]; exact ⟨_,rfl⟩
theorem i9 (hc:X.calm=true):dl X (.builtin "min") (fun xs H Q=>∃i j,xs=[.int i,.int j]∧Q (.int (if j < i then j else i)) H):=by
 intro pins s σ H xs us Q I r h;obtain ⟨i,j,rfl,q⟩:=h;obtain ⟨u,w',rfl,⟨t,rfl⟩,⟨t',rfl⟩⟩:=vals2 r;refine min_two_ints (I.ok.hd hc) fun h' tk k=>⟨_,H,I.kept k,?_,q⟩
 by_cases hj:j < i
 ·rw [if_pos hj,if_pos hj]; exact ⟨_,rfl⟩
 ·rw [if_neg hj,if_neg hj]; exact ⟨_,rfl⟩
theorem rR:dl X (.type "int") (fun xs H Q=>(∃i,xs=[.int i]∧Q (.int i) H)∨∃k,xs=[.bl k]∧Q (.int (if k then 1 else 0)) H):=by
 intro pins s σ H xs us Q I r h;rcases h with ⟨i,rfl,q⟩ | ⟨k,rfl,q⟩
 ·obtain ⟨u,rfl,t,rfl⟩:=vals1 r;exact call_int_int ⟨.int i,H,I,⟨_,rfl⟩,q⟩
 ·obtain ⟨u,rfl,r1⟩:=vals1 r;cases r1;exact call_int_bool ⟨.int (if k then 1 else 0),H,I.tok _,⟨_,rfl⟩,q⟩
end
structure ObjM (h:Heap) (x dx C:Addr) (mA:Str→Option Value):Prop where
 obj:h.get? x=some (PySem.W.instObj C dx)
 ns:h.Ns1 dx mA
 ne:dx≠x
theorem rS {h:Heap} {dx:Addr} {mA:Str→Option Value} (n:h.Ns1 dx mA):∃od,h.get? dx=some od∧∀name,PySem.W.lookIn name od=some (mA name):=by
 obtain ⟨o,es,ep,ho,hd,hk,_,hm⟩:=n;refine ⟨o,ho,fun name=>?_⟩;have e:=hm name;unfold nsFind findBy at e;rw [← Array.find?_toList] at e;unfold PySem.W.lookIn;rw [hd];dsimp only
 split
 ·rename_i y q
  rw [q] at e;exact congrArg some e
 ·rename_i q
  rw [q] at e;have a:es.toList.any (·.refKey)=false:=by
   rw [List.any_eq_false];intro y hy;obtain ⟨z,t,hkey⟩:=hk y (Array.mem_toList_iff.mp hy);simp [DictEntry.refKey,hkey]
  have a':¬es.toList.any (·.refKey)=true:=by rw [a]; exact Bool.false_ne_true
  rw [if_neg a'];exact congrArg some e
theorem ObjM.look {h:Heap} {x dx C:Addr} {mA:Str→Option Value} (I:ObjM h x dx C mA):∃od,PySem.W.InstAt h x (PySem.W.instObj C dx) C (some od)∧∀name,PySem.W.lookIn name od=some (mA name):=
 let ⟨od,ho,hl⟩:=rS I.ns
 ⟨od,⟨I.obj,rfl,rfl,ho⟩,hl⟩
section
variable {prog:Program} {w:World} {A:Around} {E:Value→Shared→Prop} {s:Shared} {K:PySem.W.Frag} {x dx C f:Addr} {mA:Str→Option Value} {name:Str} {v:Value}
end
theorem RelO.some_of {v:V} {o:Option Value} (r:RelO (some v) o):∃u,o=some u∧RelV v u:=by
 cases o with
 | none=>exact (show False from r).elim
 | some u=>exact ⟨u,rfl,r⟩
section
variable {P:Program} {w:World} {H H':Hp} {h h':Heap} {a C dx:Addr} {fs fs':List (Str × V)}
theorem wm (hok:HOk P w H h) (e:H a=some (.ins C dx fs)):∃mA,ObjM h a dx C mA∧(∀f,RelO (fs.lookup f) (mA f))∧PySem.Within mA (fs.map (·.1))∧fs.length≤1000∧H dx=some (.own a):=by
 obtain ⟨d,z,ne,ob,mA,n,r,q⟩:=(show ObjOk P w H h a (.ins C dx fs) from hok a _ e);exact ⟨mA,⟨ob,n,ne⟩,r,q,z,d⟩
end
structure Cls (K:PySem.W.Frag) (C:Addr):Prop where
 pg:PySem.W.plainGet K C Str.empty=true
 hd:PySem.W.hasDictIn K C=true
 po:PySem.W.plainOver K C=true
 sa:PySem.W.findIn K (.ref C) "__setattr__" = some (some (.builtin "object.__setattr__"))
theorem Cls.get {K:PySem.W.Frag} {C:Addr} (c:Cls K C) (f:Str):PySem.W.plainGet K C f=true:=c.pg
section
variable {X:Cx} {pins:List (Addr × Obj)} {σ:St} {H:Hp} {s:Shared} {a C dx:Addr} {fs:List (Str × V)} {f:Str} {v:V} {A:Around} {E:Value→Shared→Prop}
end
section
variable {X:Cx} {o e value:Expr} {f:Str} {pos pos' tpos:Pos} {ta tv:TE}
end
section
variable {X:Cx} {pins:List (Addr × Obj)} {σ:St} {H:Hp} {s:Shared} {A:Around} {E:Value→Shared→Prop} {Q:Value→Shared→Prop} {c:Value} {b:Bool}
inductive TyOf (K:PySem.W.Frag) (H:Hp):V→Value→Prop where
 | non:TyOf K H .non (.type "NoneType")
 | bl (x:Bool):TyOf K H (.bl x) (.type "bool")
 | int (i:Int):TyOf K H (.int i) (.type "int")
 | str (x:Str):TyOf K H (.str x) (.type "str")
 | flt (x:UInt64):TyOf K H (.flt x) (.type "float")
 | lst {a:Addr} {xs:List V} (e:H a=some (.lst xs)):TyOf K H (.ref a) (.type "list")
 | frz {a:Addr} {o:Obj} {xs:List V} (e:H a=some (.frz o (.lst xs))):TyOf K H (.ref a) (.type "list")
 | tup {a:Addr} {xs:List V} (e:H a=some (.tup xs)):TyOf K H (.ref a) (.type "tuple")
 | dK {a:Addr} {kvs:List (Key × V)} (e:H a=some (.dK kvs)):TyOf K H (.ref a) (.type "dict")
 | dT {a:Addr} {kvs:List (List Key × V)} (e:H a=some (.dT kvs)):TyOf K H (.ref a) (.type "dict")
 | ins {a C dx:Addr} {fs:List (Str × V)} (e:H a=some (.ins C dx fs)) (cl:Cls K C) (ha:PySem.W.findIn K (.ref C) "__class__" = some (some (.builtin "object.__class__")))
   (hn:PySem.W.specialIn K (.builtin "object.__class__") "__get__" = some (some (.builtin "getset_descriptor.__get__"))) (htk:PySem.W.takesIn K (.builtin "object.__class__")=some true)
   (hm:PySem.W.mroIn K C (.type "object")=some true):TyOf K H (.ref a) (.ref C)
end
structure Room (k:Nat) (A:Around):Prop where
 hd:A.handled=none
 dp:A.depth + 3 * k + 5 < recursionLimit
 un:A.units + 16 * k + 200 < cLine
theorem Room.mono {j k:Nat} {A:Around} (r:Room k A) (h:j≤k):Room j A:=⟨r.hd,by have:=r.dp; omega,by have:=r.un; omega⟩
theorem Room.deeper {k:Nat} {A:Around} (r:Room (k + 1) A) (env:Env):Room k (A.deeper env):=
 ⟨r.hd,by have:=r.dp; show A.depth + 1 + 3 * k + 5 < _; omega,by have:=r.un; show A.units + 3 + 16 * k + 200 < _; omega⟩
theorem Room.depth {k:Nat} {A:Around} (r:Room k A):A.depth < recursionLimit:=by have:=r.dp; omega
def wn:TA:=fun _ H Q=>Q [] H
def dB (ta:TE) (tr:TA):TA:=fun σ H Q=>ta σ H fun x H1=>tr σ H1 fun xs H2=>Q (x :: xs) H2
section
variable {X:Cx} {e:Expr} {es:List Expr} {te:TE} {t:TA} {pos:Pos}
theorem dD:PA X [] wn:=fun _ _ _ _ H Q I h=>Calls.spliced_nil ⟨[],H,I,.nil,h⟩
theorem bf (ha:PE X e te) (hr:PA X es t) (hs:starEach (e :: es) X.env=(false,eval e X.env) :: starEach es X.env:=by rfl):PA X (e :: es) (dB te t):=by
 intro pos pins s σ H Q I h;rw [hs];show wpAny _ _ (spliced ((false,eval e X.env) :: backTo pos (starEach es X.env))) _ _ s;refine Calls.spliced_cons (thn (ha pins s σ H _ I h) fun u s1 ⟨x,H1,I1,r1,q1⟩=>?_);exact thn (hr pos pins s1 σ H1 _ I1 q1) fun us s2 ⟨xs,H2,I2,r2,q2⟩=>⟨x :: xs,H2,I2,.cons r1 r2,q2⟩
def z7 (t:TA):TE:=fun σ H Q=>t σ H fun xs H1=>xs.length≤sizeLine∧∀p,H1 p=none→Q (.ref p) (upd H1 p (.tup xs))
def z8 (t:TA):TE:=fun σ H Q=>t σ H fun xs H1=>xs.length≤sizeLine∧∀p,H1 p=none→Q (.ref p) (upd H1 p (.lst xs))
theorem ub {x1} (h:PA X es t):PE X (.Tuple es x1 pos) (z7 t):=by
 intro pins s σ H Q I hq;refine wpAny_Tuple_spliced (thn (h pos pins s σ H _ I hq) fun us s1 ⟨xs,H1,I1,r,z,q⟩=>⟨by rw [← r.length]; exact z,?_⟩);have hf:H1 s1.heap.objs.size=none:=I1.hok.fresh (Nat.le_refl _);refine ⟨.ref s1.heap.objs.size,upd H1 s1.heap.objs.size (.tup xs),I1.laid (t':=s1.toks) (fun b u e=>Heap.get?_push_of_some _ e) (Nat.le_refl _) ?_,rfl,q _ hf⟩;exact ⟨z,us,r,⟨_,Heap.get?_push_size _ rfl,rfl,_,rfl⟩⟩
theorem uc (h:PA X es t):PE X (.List es pos) (z8 t):=by
 intro pins s σ H Q I hq;refine wpAny_List_spliced (thn (h pos pins s σ H _ I hq) fun us s1 ⟨xs,H1,I1,r,z,q⟩=>⟨by rw [← r.length]; exact z,?_⟩);have hf:H1 s1.heap.objs.size=none:=I1.hok.fresh (Nat.le_refl _);refine ⟨.ref s1.heap.objs.size,upd H1 s1.heap.objs.size (.lst xs),I1.laid (t':=s1.toks) (fun b u e=>Heap.get?_push_of_some _ e) (Nat.le_refl _) ?_,rfl,q _ hf⟩;exact ⟨z,us,0,r,Heap.get?_push_size _ rfl⟩
end
abbrev Sp:=List V→Hp→VK→XK→Prop
abbrev CXT:=List Env→Hp→Shared→XK→Value→Shared→Prop
structure Env0 (P:Program) (w:World) (K:PySem.W.Frag) (mg:Str→Option Value) (base:Heap) (A:Around) (outer:List Env) (s:Shared) (H:Hp):Prop where
 frames:A.frames=some outer
 mod:Mod K mg base
 bs:∀b o,base.get? b=some o→s.heap.get? b=some o∧H b=none
 bsz:base.objs.size≤s.heap.objs.size
 funs:s.heap.FunFrames base outer
 frf:∀b∈frs outer,H b=none
 hok:HOk P w H s.heap
 bare:AllBare s.gens
def CE (outer:List Env) (P:Program) (w:World) (H:Hp) (s:Shared) (Q:VK) (u:Value) (s':Shared):Prop:=
 ∃v H',s'.os=s.os∧AllBare s'.gens∧Un (frs outer) [] H H' s.heap s'.heap∧HOk P w H' s'.heap∧RelV v u∧Q v H'
def CR (CX:CXT) (outer:List Env) (P:Program) (w:World) (H:Hp) (s:Shared) (Q:VK) (E:XK) (r:Result) (s':Shared):Prop:=
 match r with
 | .ok (.ret u)=>CE outer P w H s Q u s'
 | .ok _=>False
 | .error e=>CX outer H s E e s'
structure FnOk (P:Program) (w:World) (K:PySem.W.Frag) (mg:Str→Option Value) (base:Heap) (CX:CXT) (k:Nat) (f:Addr) (fd:FuncData) (ps:List Str) (sp:Sp):Prop where
 len:∀vs H Q E,sp vs H Q E→vs.length=ps.length
 run:∀(A:Around) (outer:List Env) (s:Shared) (H:Hp) (args:Args) (us:List Value) (vs:List V) (Q:VK) (E:XK),Room k A→Env0 P w K mg base A outer s H→BindsTo s fd args (ps.zip us)→Vals vs us→sp vs H Q E→
  codeAny (model P w) A (.call (.ref f) args) (CR CX outer P w H s Q E) s
section
variable {X:Cx} {pins:List (Addr × Obj)} {σ:St} {H:Hp} {s s':Shared}
theorem Inv.env0 (I:Inv X pins σ H s):Env0 X.prog X.w X.K X.mg X.base X.A X.stack s H:=
 ⟨I.ok.frames,I.ok.mod,I.bs,Nat.le_trans I.ok.bsz I.sz,I.stack,I.stkFree,I.hok,I.bare⟩
theorem Inv.after {Q:VK} {u:Value} (I:Inv X pins σ H s) (h:CE X.stack X.prog X.w H s Q u s'):EP X pins σ Q u s':=by
 obtain ⟨v,H',os,bare,un,hok,r,q⟩:=h;obtain ⟨hh,g,d,t,os'⟩:=s';obtain rfl:os'=s.os:=os;exact ⟨v,H',I.call (h':=hh) (g':=g) (d':=d) (t':=t) (ch:=[]) un hok bare (fun b z=>absurd z (by simp)),r,q⟩
end
def xT (sp:Sp) (dvs:List V) (E:XK) (t:TA):TE:=fun σ H Q=>t σ H fun vs H1=>sp (vs ++ dvs) H1 Q E
def Binds (K:PySem.W.Frag) (fd:FuncData) (ps:List Str) (ds:List Value):Prop:=
 ∀(s:Shared) (us:List Value),K.In s.heap→(us ++ ds).length=ps.length→BindsTo s fd ⟨us,[]⟩ (ps.zip (us ++ ds))
theorem Binds.all {K:PySem.W.Frag} {fd:FuncData} {ps:List Str} (h:∀us:List Value,us.length=ps.length→bindArgs fd ⟨us,[]⟩=pure (ps.zip us)):Binds K fd ps []:=fun s us _ hl=>by
 rw [List.append_nil] at hl ⊢;exact .of_eq (h us hl)
def jN (CX:CXT) (X:Cx) (E:XK):Prop:=∀(pins:List (Addr × Obj)) (σ:St) (H:Hp) (s:Shared) (e:Value) (s':Shared),Inv X pins σ H s→CX X.stack H s E e s'→X.xe e s'
section
variable {X:Cx} {CX:CXT} {k:Nat} {f C:Addr} {fd:FuncData} {ps:List Str} {sp:Sp} {dvs:List V} {ds:List Value} {E:XK} {x m:Str} {p pos apos:Pos} {e o:Expr} {es:List Expr} {ta:TE} {t:TA}
theorem yN {pins:List (Addr × Obj)} {σ:St} {H:Hp} {s:Shared} {Q:VK} {us:List Value} {vs:List V} (F:FnOk X.prog X.w X.K X.mg X.base CX k f fd ps sp) (hr:Room k X.A) (hb:Binds X.K fd ps ds) (hd:Vals dvs ds) (hx:jN CX X E)
  (I:Inv X pins σ H s) (r:Vals vs us) (h:sp (vs ++ dvs) H Q E):wpAny (model X.prog X.w) X.A (call (.ref f) us) (EP X pins σ Q) X.xe s:=by
 have r2:Vals (vs ++ dvs) (us ++ ds):=r.append hd;have hl:(us ++ ds).length=ps.length:=by rw [← r2.length]; exact F.len _ _ _ _ h
 refine wpAny_call (codeAny_mono (F.run X.A X.stack s H ⟨us,[]⟩ (us ++ ds) (vs ++ dvs) Q E hr I.env0 (hb s us I.kIn hl) r2 h) fun r s' hq=>?_);cases r with
 | error e=>exact hx pins σ H s e s' I hq
 | ok fl=>
  cases fl with
  | ret u=>exact I.after hq
  | next=>exact False.elim hq
  | brk=>exact False.elim hq
  | cont=>exact False.elim hq
theorem wq (F:FnOk X.prog X.w X.K X.mg X.base CX k f fd ps sp) (hr:Room k X.A) (hg:Gl X x) (hm:X.mg x=some (.ref f)) (hk:PySem.W.keepIn X.K (.ref f)=true) (hb:Binds X.K fd ps ds) (hd:Vals dvs ds) (hx:jN CX X E)
  (ha:PA X (e :: es) t) (hdb:(x == ("__debug__" : Str))=false:=by decide) (he:starEach (e :: es) X.env=(false,eval e X.env) :: starEach es X.env:=by rfl) (hpl:(backTo pos (starEach es X.env)).any (·.1)=false:=by rfl) :
  PE X (.Call (.Name x p) (e :: es) [] pos) (xT sp dvs E t):=by
 intro pins s σ H Q I h;refine wpAny_Call_Name_kw (iE I hg hm ?_ hdb);refine PySem.W.callWith_K (h₀:=X.base) I.ok.mod.kin hk (thn (ha pos pins s σ H _ I h) fun us s1 ⟨vs,H1,I1,r,q⟩=>⟨I1.kIn,?_⟩) he hpl;exact yN F hr hb hd hx I1 r q
end
section
variable {X:Cx} {CX:CXT} {k:Nat} {f C:Addr} {fd:FuncData} {ps ks:List Str} {sp:Sp} {E:XK} {x m:Str} {p pos apos kpos:Pos} {e o:Expr} {es:List Expr} {kws:List Keyword} {te ta:TE} {t tk:TA} {nm:Option Str}
variable {g:List Value→List Value→List Value} {gV:List V→List V→List V}
end
structure FnScope (N P:List Str) (sc:Scope):Prop where
 kind:sc.kind = .function
 co:sc.isCoroutine=false
 gen:sc.isGenerator=false
 nd:N.Nodup
 pre:N.take P.length=P
 par:∀x∈P,sc.names.lookup x=some .local∨sc.names.lookup x=some .cell
 nofree:∀y∈sc.names,y.2≠.free
theorem lj {kindOf:Str→Option NameKind} {x:Str}:∀{binds:List (Str × Value)} {m:Str→Option Value},(∀v,(x,v)∉binds)→bindL kindOf binds m x=m x
 | [],_,_=>rfl
 | (n,v) :: r,m,h=>by
  unfold bindL;rw [lj fun w hw=>h w (List.mem_cons_of_mem _ hw)]
  split
  ·have:x≠n:=by rintro rfl; exact h v List.mem_cons_self
   simp [this]
  ·rfl
theorem lq {kindOf:Str→Option NameKind} {x:Str}:∀{binds:List (Str × Value)} {m:Str→Option Value},(∀v,(x,v)∉binds)→bindC kindOf binds m x=m x
 | [],_,_=>rfl
 | (n,v) :: r,m,h=>by
  unfold bindC;rw [lq fun w hw=>h w (List.mem_cons_of_mem _ hw)]
  split
  ·rfl
  ·have:x≠n:=by rintro rfl; exact h v List.mem_cons_self
   simp [this]
theorem lr {kindOf:Str→Option NameKind} {x:Str} {v:Value}:∀{P:List Str} {vs:List Value} {i:Nat} {m:Str→Option Value},P.Nodup→P[i]? = some x→vs[i]? = some v→kindOf x=some .local→
  bindL kindOf (P.zip vs) m x=some v
 | [],_,_,_,_,h,_,_=>by simp at h
 | _ :: _,[],_,_,_,_,h,_=>by simp at h
 | p :: P,w :: vs,0,m,nd,h1,h2,hk=>by
  simp at h1 h2; subst h1; subst h2;show bindL kindOf ((p,w) :: P.zip vs) m p=_;unfold bindL;rw [lj fun v hv=>(List.nodup_cons.mp nd).1 (List.of_mem_zip hv).1,if_pos hk];simp
 | p :: P,w :: vs,i + 1,m,nd,h1,h2,hk=>by
  show bindL kindOf ((p,w) :: P.zip vs) m x=_;unfold bindL;exact lr (i:=i) (List.nodup_cons.mp nd).2 (by simpa using h1) (by simpa using h2) hk
theorem lu {kindOf:Str→Option NameKind} {x:Str} {v:Value}:∀{P:List Str} {vs:List Value} {i:Nat} {m:Str→Option Value},P.Nodup→P[i]? = some x→vs[i]? = some v→kindOf x≠some .local→
  bindC kindOf (P.zip vs) m x=some v
 | [],_,_,_,_,h,_,_=>by simp at h
 | _ :: _,[],_,_,_,_,h,_=>by simp at h
 | p :: P,w :: vs,0,m,nd,h1,h2,hk=>by
  simp at h1 h2; subst h1; subst h2;show bindC kindOf ((p,w) :: P.zip vs) m p=_;unfold bindC;rw [lq fun v hv=>(List.nodup_cons.mp nd).1 (List.of_mem_zip hv).1,if_neg hk];simp
 | p :: P,w :: vs,i + 1,m,nd,h1,h2,hk=>by
  show bindC kindOf ((p,w) :: P.zip vs) m x=_;unfold bindC;exact lu (i:=i) (List.nodup_cons.mp nd).2 (by simpa using h1) (by simpa using h2) hk
def start (N:List Str) (vs:List V):St:=vs.map some ++ List.replicate (N.length - vs.length) none
def eV (CX:CXT) (P:Program) (w:World) (K:PySem.W.Frag) (mg:Str→Option Value) (base:Heap) (N:List Str) (qual:Str) (scope:Scope) (f:Addr) (cd:Value) (A:Around) (outer:List Env) (s:Shared) (H:Hp) (E:XK):Cx where
 prog:=P
 w:=w
 K:=K
 mg:=mg
 base:=base
 A:=A.deeper (envOfC qual scope s.heap.objs.size f cd)
 N:=N
 s₀:=s
 H₀:=H
 env:=envOfC qual scope s.heap.objs.size f cd
 outer:=outer
 stack:=envOfC qual scope s.heap.objs.size f cd :: outer
 ex:=[]
 calm:=true
 fn:=fun _=>true
 pn:=[]
 xe:=fun e s'=>wpAny (model P w) (A.deeper (envOfC qual scope s.heap.objs.size f cd)) (leaving (envOfC qual scope s.heap.objs.size f cd) e) (fun _ s''=>CX outer H s E e s'') (fun e' s''=>CX outer H s E e' s'') s'
theorem nS {sc:Scope} {n:Nat} {x:Str} (h:sc.names.lookup x=some .cell):∃c,(cellsFrom n sc.names []).lookup x=some c:=by
 have q:=PySem.W.cellsFrom_some sc.names n [] (.inl h);exact Option.isSome_iff_exists.mp q
theorem rT {CX:CXT} {P:Program} {w:World} {K:PySem.W.Frag} {mg:Str→Option Value} {base:Heap} {N ps:List Str} {qual:Str} {scope:Scope} {f:Addr} {cd:Value} {A:Around} {outer:List Env} {s s1:Shared} {H:Hp} {E:XK} {us:List Value} {vs:List V}
  (S:FnScope N ps scope) (hd:A.handled=none) (e0:Env0 P w K mg base A outer s H) (hl:vs.length=ps.length) (r:Vals vs us)
  (x:InCallC s s.heap.objs.size (bindL (envOfC qual scope s.heap.objs.size f cd).kindOf (ps.zip us) fun _=>none) (cellsFrom (s.heap.objs.size + 1) scope.names []) (bindC (envOfC qual scope s.heap.objs.size f cd).kindOf (ps.zip us) fun _=>none) s1) :
  Inv (eV CX P w K mg base N qual scope f cd A outer s H E) [] (start N vs) H s1:=by
 have hpl:ps.length≤N.length:=by have:=congrArg List.length S.pre; rw [List.length_take] at this; omega
 obtain ⟨h1,tk,rfl,hk⟩:=x.done;have noA:∀b:Addr,b∉(eV CX P w K mg base N qual scope f cd A outer s H E).ex:=fun b z=>absurd (show b∈([]:List Addr) from z) (by simp);refine ⟨⟨e0.mod,S.kind,rfl,rfl,Nat.le_refl _,fun y z c h1 h2=>?_,fun y hy=>?_,fun y c _ h=>?_,fun _=>hd,Around.frames_deeper e0.frames,.inr ⟨rfl,rfl⟩,fun b z=>absurd z (noA b),e0.bs,e0.bsz,fun b _ _=>noA b,fun b z=>absurd z (noA b),e0.funs,e0.frf⟩,
  rfl,e0.bare,Un.kept hk,⟨_,x.toInCall.ns,fun i y v h1 h2 h3=>?_⟩,fun y c h=>⟨_,x.cell y c h⟩,e0.hok.fresh (Nat.le_refl _),fun y c h=>?_,fun p hp=>absurd (show p∈([]:List (Addr × Obj)) from hp) (by simp),e0.hok.kept hk,?_⟩
 ·exact name_of_addr x.apart (PySem.mem_of_lookup h1) (PySem.mem_of_lookup h2)
 ·have hy:scope.names.lookup y=some .cell∨scope.names.lookup y=some .free:=hy;rcases hy with hy | hy
  ·exact nS hy
  ·exact absurd rfl (S.nofree _ (PySem.mem_of_lookup hy))
 ·exact Nat.le_of_lt (x.above y c (PySem.mem_of_lookup h))
 ·have hi:i < vs.length:=by
   unfold start at h2
   by_cases hi:i < vs.length
   ·exact hi
   ·rw [List.getElem?_append_right (by simpa using hi)] at h2;rw [List.getElem?_replicate] at h2
    split at h2 <;> cases h2
  have ha:vs[i]? = some v:=by
   unfold start at h2;rw [List.getElem?_append_left (by simpa using hi),List.getElem?_map] at h2;cases e:vs[i]? with
   | none=>rw [e] at h2; cases h2
   | some a=>rw [e] at h2; cases h2; rfl
  obtain ⟨u,hu,rv⟩:=r.get ha;have hp:ps[i]? = some y:=by
   rw [← S.pre,List.getElem?_take_of_lt (by omega)]; exact h1
  have ndP:ps.Nodup:=by rw [← S.pre]; exact S.nd.sublist (List.take_sublist _ _)
  refine ⟨u,rv,?_⟩;rcases S.par y (List.mem_of_getElem? hp) with k | k
  ·exact .inl ⟨k,lr ndP hp hu k⟩
  ·obtain ⟨c,e⟩:=nS (n:=s.heap.objs.size + 1) k;refine .inr ⟨.inl k,c,e,?_⟩;have q:=x.cell y c e;rw [lu ndP hp hu (by show scope.names.lookup y≠_; rw [k]; decide)] at q;exact q
 ·exact e0.hok.fresh (Nat.le_of_lt (x.above y c (PySem.mem_of_lookup h)))
 ·unfold start;show _=N.length;rw [List.length_append,List.length_map,List.length_replicate];omega
theorem xU {CX:CXT} {P:Program} {w:World} {K:PySem.W.Frag} {mg:Str→Option Value} {base:Heap} {k:Nat} {f:Addr} {name qual:Str} {params:Arguments} {body:List Stmt} {scope:Scope} {dV kV doc pm cdv ct oc:Value} {an od:Option Addr}
  {osl:Array (Option Value)} {N ps:List Str} {sp:Sp} (lk:K.lookup f=some ⟨oc,od,.func (PySem.W.fnOf name qual params body scope dV kV doc pm an cdv ct),osl⟩) (hcd:PySem.W.codeIn K cdv qual=true) (S:FnScope N ps scope)
  (len:∀vs H Q E,sp vs H Q E→vs.length=ps.length)
  (hbody:∀(A:Around) (outer:List Env) (s:Shared) (H:Hp) (vs:List V) (Q:VK) (E:XK),Room k (A.deeper (envOfC qual scope s.heap.objs.size f cdv))→sp vs H Q E→
   ∃t,PSs (eV CX P w K mg base N qual scope f cdv A outer s H E) body t∧t {nx:=fun _ H'=>Q .non H',rt:=Q} (start N vs) H) :
  FnOk P w K mg base CX (k + 1) f (PySem.W.fnOf name qual params body scope dV kV doc pm an cdv ct) ps sp:=by
 refine ⟨len,fun A outer s H args us vs Q E hr e0 hb r hsp=>?_⟩;have hl:=len _ _ _ _ hsp;have KX:K.In s.heap:=e0.mod.kin.keeps fun b o e=>(e0.bs b o e).1;have lim:s.heap.NoLimit:=e0.mod.nolimit.keeps fun b o e=>(e0.bs b o e).1;have hkind:∀y∈ps.zip us,scope.names.lookup y.1=some .local∨(scope.names.lookup y.1=some .cell∧((cellsFrom (s.heap.objs.size + 1) scope.names []).lookup y.1).isSome=true):=fun ⟨n,v⟩ hy=>by
  rcases S.par n (List.of_mem_zip hy).1 with q | q
  ·exact .inl q
  ·exact .inr ⟨q,PySem.W.cellsFrom_some _ _ _ (.inl q)⟩
 refine codeAny_call_function hr.depth (KX _ _ lk) rfl S.co S.gen rfl (PySem.W.codeRec_of KX hcd) (hb _ _ _ _ ?_);refine wpAny_newFunctionEnv_cells S.kind hkind fun env he s1 x=>?_;subst he;refine ⟨lim.keeps x.toInCall.keep,codeAny_func ?_⟩;obtain ⟨t,ht,hq⟩:=hbody A outer s H vs Q E (hr.deeper _) hsp;have I:Inv (eV CX P w K mg base N qual scope f cdv A outer s H E) [] (start N vs) H s1:=rT S hr.hd e0 hl r x;refine wpAny_mono (ht [] s1 (start N vs) H _ I hq) (fun fl s' hs=>?_) fun e s' hs=>hs;have fin:∀{σ':St} {H':Hp} {v:V} {u:Value},Inv (eV CX P w K mg base N qual scope f cdv A outer s H E) [] σ' H' s'→RelV v u→Q v H'→CE outer P w H s Q u s':=
  fun {σ' H' v u} J rv q=>⟨v,H',J.os,J.bare,J.base,J.hok,rv,q⟩
 cases fl with
 | ret u=>
  obtain ⟨v,σ',H',J,rv,q⟩:=hs;exact fin J rv q
 | next=>
  obtain ⟨σ',H',J,q⟩:=hs;exact fin (v:=V.non) (u:=Value.none) J rfl q
 | brk=>
  obtain ⟨_,_,_,q⟩:=hs;exact False.elim q
 | cont=>
  obtain ⟨_,_,_,q⟩:=hs;exact False.elim q
section
variable {X:Cx} {x:Str} {p pos:Pos} {e:Expr} {es:List Expr} {t:TA} {id T:String} {r:List V→Hp→VK→Prop}
def tCB (r:List V→Hp→VK→Prop) (t:TA):TE:=fun σ H Q=>t σ H fun vs H1=>r vs H1 Q
theorem dX (hc:dl X (.builtin id) r) (hg:Gl X x) (hm:X.mg x=none) (hv:bootBuiltins x=some (.builtin id)) (ha:PA X (e :: es) t) (hn:x≠"__name__":=by decide) (hdb:(x == ("__debug__" : Str))=false:=by decide)
  (he:starEach (e :: es) X.env=(false,eval e X.env) :: starEach es X.env:=by rfl) (hpl:(backTo pos (starEach es X.env)).any (·.1)=false:=by rfl):PE X (.Call (.Name x p) (e :: es) [] pos) (tCB r t):=by
 intro pins s σ H Q I h;refine wpAny_Call_Name_kw (eO I hg hm hv ?_ hn hdb);exact PyProof.Rows.callWith_builtin1 (thn (ha pos pins s σ H _ I h) fun us s1 ⟨vs,H1,I1,r1,q1⟩=>hc pins s1 σ H1 vs us Q I1 r1 q1) he hpl
theorem lw (hc:dl X (.type T) r) (hg:Gl X x) (hm:X.mg x=none) (hv:bootBuiltins x=some (.type T)) (ha:PA X (e :: es) t) (hn:x≠"__name__":=by decide) (hdb:(x == ("__debug__" : Str))=false:=by decide)
  (he:starEach (e :: es) X.env=(false,eval e X.env) :: starEach es X.env:=by rfl) (hpl:(backTo pos (starEach es X.env)).any (·.1)=false:=by rfl):PE X (.Call (.Name x p) (e :: es) [] pos) (tCB r t):=by
 intro pins s σ H Q I h;refine wpAny_Call_Name_kw (eO I hg hm hv ?_ hn hdb);exact PyProof.Rows.callWith_type1 (thn (ha pos pins s σ H _ I h) fun us s1 ⟨vs,H1,I1,r1,q1⟩=>hc pins s1 σ H1 vs us Q I1 r1 q1) he hpl
theorem pJ (hc:dl X (.type T) r) (hg:Gl X x) (hm:X.mg x=none) (hv:bootBuiltins x=some (.type T)) (hn:x≠"__name__":=by decide) (hdb:(x == ("__debug__" : Str))=false:=by decide) :
  PE X (.Call (.Name x p) [] [] pos) (tCB r wn):=by
 intro pins s σ H Q I h;refine wpAny_Call_Name_kw (eO I hg hm hv ?_ hn hdb);exact PyProof.Rows.callWith_type0 (hc pins s σ H [] [] Q I .nil h)
end
end L2
namespace HT
open PySem PyProof.Rows
section
open PySem.SeqAt
open PySem.AutoSeq1 (wpAny_loadPart')
open PySem.MeetsSeq PySem.MeetsSeq2 PySem.MeetsSeq3
end
section
variable {prog:Program} {w:World} {A:Around} {E:Value→Shared→Prop} {s:Shared}
def sIx (n d:Nat):Option Int→Nat
 | none=>d
 | some v=>if v < 0 then (v + (n:Int)).toNat else min v.toNat n
theorem sIx_nat (n d k:Nat):sIx n d (some (k:Int))=min k n:=by
 show (if (k:Int) < 0 then ((k:Int) + (n:Int)).toNat else min (k:Int).toNat n)=min k n;rw [if_neg (by omega),Int.toNat_natCast]
end
end HT
namespace L2
open PySem PySem.Spec PyProof.Rows
abbrev TO:=St→Hp→(Option Int→Hp→Prop)→Prop
def PO (X:Cx) (e:Option Expr) (t:TO):Prop:=
 ∀(pins:List (Addr × Obj)) (s:Shared) (σ:St) (H:Hp) (Q:Option Int→Hp→Prop),Inv X pins σ H s→t σ H Q→
  wpAny (model X.prog X.w) X.A (evalPart e X.env) (fun u s'=>∃o H',Inv X pins σ H' s'∧IsPart u o∧Q o H') X.xe s
def qD:TO:=fun _ H Q=>Q none H
def xV (t:TE):TO:=fun σ H Q=>t σ H fun x H1=>∃i,x = .int i∧Q (some i) H1
section
variable {X:Cx} {e:Expr} {te:TE} {lo hi:Option Expr} {tl th:TO} {pos p2:Pos}
theorem wr:PO X none qD:=by
 intro pins s σ H Q I h;rw [evalPart_none];exact wpAny_pure ⟨none,H,I,.none,h⟩
theorem qE (h:PE X e te):PO X (some e) (xV te):=by
 intro pins s σ H Q I hw;rw [evalPart_some];refine thn (h pins s σ H _ I hw) fun u s1 ⟨x,H1,I1,r1,q1⟩=>?_;obtain ⟨i,rfl,q⟩:=q1;obtain ⟨t,rfl⟩:=r1;exact ⟨some i,H1,I1,.int i t,q⟩
def SlR (X:Cx) (r:V→Option Int→Option Int→Hp→VK→Prop):Prop:=
 ∀(pins:List (Addr × Obj)) (s:Shared) (σ:St) (H:Hp) (x:V) (v vl vu:Value) (lo hi:Option Int) (sl:Addr) (Q:VK),Inv X pins σ H s→RelV x v→s.heap.IsSliceOf sl vl vu .none→IsPart vl lo→IsPart vu hi→r x lo hi H Q→
  ∃T id,typeLookup (.type T) "__getitem__" = pure (some (.builtin id))∧s.TypeIs v T∧wpAny (model X.prog X.w) X.A (getItem v (.ref sl)) (EP X pins σ Q) X.xe s
def tSl (r:V→Option Int→Option Int→Hp→VK→Prop) (te:TE) (tl th:TO):TE:=fun σ H Q=>te σ H fun x H1=>tl σ H1 fun l H2=>th σ H2 fun u H3=>r x l u H3 Q
theorem ud {r:V→Option Int→Option Int→Hp→VK→Prop} (hr:SlR X r) (he:PE X e te) (hl:PO X lo tl) (hu:PO X hi th):PE X (.Subscript e (.Slice lo hi none p2) pos) (tSl r te tl th):=by
 intro pins s σ H Q I h;refine Subscript_ (thn (he pins s σ H _ I h) fun v s1 ⟨x,H1,I1,r1,q1⟩=>?_);refine wpAny_Slice (thn (hl pins s1 σ H1 _ I1 q1) fun vl s2 ⟨l,H2,I2,pl,q2⟩=>thn (hu pins s2 σ H2 _ I2 q2) fun vu s3 ⟨u,H3,I3,pu,q3⟩=>?_);rw [evalPart_none];refine wpAny_pure ?_;have I4:Inv X pins σ H3 {s3 with heap:=s3.heap.push {cls:=.type "slice",data:=.fields #[vl,vu,.none]}}:=I3.kept (t':=s3.toks) fun b ob q=>Heap.get?_push_of_some _ q;obtain ⟨T,id,hT,ht,hg⟩:=hr pins {s3 with heap:=s3.heap.push {cls:=.type "slice",data:=.fields #[vl,vu,.none]}} σ H3 x v vl vu l u s3.heap.objs.size Q I4 r1 (Heap.IsSliceOf.new ..) pl pu q3;show wpAny (model X.prog X.w) X.A (subscriptTail e (.Slice lo hi none p2) v (.ref s3.heap.objs.size)) (EP X pins σ Q) X.xe {s3 with heap:=s3.heap.push {cls:=.type "slice",data:=.fields #[vl,vu,.none]}};exact tail_any (ops:=[.ref s3.heap.objs.size,v]) ht hT hg (by with_unfolding_all rfl)
def ju (xs:List V) (lo hi:Option Int):List V:=(xs.drop (HT.sIx xs.length 0 lo)).take (HT.sIx xs.length xs.length hi - HT.sIx xs.length 0 lo)
theorem nU (xs:List V) (lo hi:Option Int):(ju xs lo hi).length≤xs.length:=by
 unfold ju;rw [List.length_take,List.length_drop];omega
end
def ixN (n:Nat) (i:Int):Option Nat:=if 0≤i then (if i < n then some i.toNat else none) else if -(n:Int)≤i then some (i + n).toNat else none
def atI {α:Type} (xs:List α) (i:Int):Option α:=(ixN xs.length i).bind fun j=>xs[j]?
theorem qF {n:Nat} {i:Int} {j:Nat} (h:ixN n i=some j):seqIndex? i n=some j∧j < n∧-(n:Int)≤i∧i < n:=by
 unfold ixN at h
 by_cases h0:0≤i
 ·rw [if_pos h0] at h
  by_cases h1:i < n
  ·rw [if_pos h1] at h;have e:i.toNat=j:=Option.some.inj h;exact ⟨by rw [seqIndex_of h0 h1,e],by omega,by omega,h1⟩
  ·rw [if_neg h1] at h; cases h
 ·rw [if_neg h0] at h
  by_cases h1:-(n:Int)≤i
  ·rw [if_pos h1] at h;have e:(i + n).toNat=j:=Option.some.inj h;exact ⟨by rw [seqIndex_neg (by omega) h1,e],by omega,h1,by omega⟩
  ·rw [if_neg h1] at h; cases h
theorem mr {α:Type} {xs:List α} {i:Int} {v:α} (h:atI xs i=some v):∃j,seqIndex? i xs.length=some j∧xs[j]? = some v∧j < xs.length∧-(xs.length:Int)≤i∧i < xs.length:=by
 unfold atI at h;cases e:ixN xs.length i with
 | none=>rw [e] at h; cases h
 | some j=>
  rw [e] at h;obtain ⟨h1,h2,h3,h4⟩:=qF e;exact ⟨j,h1,h,h2,h3,h4⟩
theorem cY {α:Type} {xs:List α} {j:Nat} {v:α} (h:xs[j]? = some v):atI xs (j:Int)=some v:=by
 have hj:j < xs.length:=(List.getElem?_eq_some_iff.mp h).1;have e:ixN xs.length (j:Int)=some j:=by
  unfold ixN;rw [if_pos (by omega),if_pos (by omega)]; simp
 unfold atI; rw [e]; exact h
def qG (b:Expr):Prop:=∀o i,subscripted b false o i=operate [o,i] (getItem o i)
def IxR (X:Cx) (r:R2):Prop:=
 ∀(value slice:Expr) (pins:List (Addr × Obj)) (s:Shared) (σ:St) (H:Hp) (x y:V) (v u:Value) (Q:VK),Inv X pins σ H s→RelV x v→RelV y u→r x y H Q→
  subscripted slice false v u=operate [v,u] (getItem v u)→wpAny (model X.prog X.w) X.A (subscriptTail value slice v u) (EP X pins σ Q) X.xe s
def MtR (X:Cx) (id:String) (r:V→List V→Hp→VK→Prop):Prop:=
 ∀(pins:List (Addr × Obj)) (s:Shared) (σ:St) (H:Hp) (x:V) (xs:List V) (v:Value) (us:List Value) (Q:VK),Inv X pins σ H s→RelV x v→Vals xs us→r x xs H Q→
  wpAny (model X.prog X.w) X.A (call (.builtin id) (v :: us)) (EP X pins σ Q) X.xe s
section
variable {X:Cx} {a b:Expr} {ta tb:TE} {pos:Pos}
theorem jO {r:R2} (hr:IxR X r) (ha:PE X a ta) (hb:PE X b tb) (hs:qG b):PE X (.Subscript a b pos) (tOp r ta tb):=by
 intro pins s σ H Q I h;exact Subscript_ (yJ ha hb I h fun v u s2 x y H2 I2 rx ry q=>hr a b pins s2 σ H2 x y v u Q I2 rx ry q (hs _ _))
def AR (K:PySem.W.Frag):R2:=fun x y H Q=>∃p xs i v,x = .ref p∧y = .int i∧SqL K H p xs∧atI xs i=some v∧Q v H
def yO (K:PySem.W.Frag):R2:=fun x y H Q=>∃p xs i v,x = .ref p∧y = .int i∧SqT K H p xs∧atI xs i=some v∧Q v H
def AS:R2:=fun x y H Q=>∃z i c,x = .str z∧y = .int i∧z.length≤sizeLine∧atI z.cps.toList i=some c∧Q (.str ⟨#[c]⟩) H
theorem bi:IxR X (AR X.K):=by
 intro value slice pins s σ H x y v u Q I rx ry h hs;obtain ⟨p,xs,i,z,rfl,rfl,hq,he,q⟩:=h;cases rx;obtain ⟨t,rfl⟩:=ry;obtain ⟨its,r,pl,hz⟩:=I.list hq;obtain ⟨j,h1,h2,h3,h4,h5⟩:=mr he;obtain ⟨w,ew,rw'⟩:=r.get h2;have hl:=r.length;have hn:=iq;have fin:EP X pins σ Q w s:=⟨z,H,I,rw',q⟩
 by_cases h0:0≤i
 ·have hj:i.toNat=j:=by
   rw [seqIndex_of h0 h5] at h1;exact Option.some.inj h1
  exact item_listR pl.isList h0 (by omega) (by rw [hj]; simpa using ew) fin hs
 ·have hj:(i + (its.toArray.size:Int)).toNat=j:=by
   rw [seqIndex_neg (by omega) h4] at h1;rw [List.size_toArray,← hl];exact Option.some.inj h1
  exact subscriptTail_builtinR (x:=w) pl.isList.typeIs slot_list_getitem.lookup
   (wpAny_getItem_list_neg (Q:=fun r s'=>r=w∧EP X pins σ Q r s') pl.isList (by omega) (by rw [List.size_toArray] <;> omega) (by omega) (by rw [hj]; simpa using ew) ⟨rfl,fin⟩) hs
theorem bj:IxR X (yO X.K):=by
 intro value slice pins s σ H x y v u Q I rx ry h hs;obtain ⟨p,xs,i,z,rfl,rfl,hq,he,q⟩:=h;cases rx;obtain ⟨t,rfl⟩:=ry;obtain ⟨its,r,pl,hz⟩:=I.tuple hq;obtain ⟨j,h1,h2,h3,h4,h5⟩:=mr he;obtain ⟨w,ew,rw'⟩:=r.get h2;have hl:=r.length;have hn:=iq;have fin:EP X pins σ Q w s:=⟨z,H,I,rw',q⟩;exact subscriptTail_builtinR (x:=w) pl.typeIs slot_tuple_getitem.lookup
  (getItem_tuple (j:=j) (Q:=fun r s'=>r=w∧EP X pins σ Q r s') pl (by omega) (by omega) (by rw [List.size_toArray,← hl]; exact h1) (by simpa using ew) ⟨rfl,fin⟩) hs
theorem ja:IxR X AS:=by
 intro value slice pins s σ H x y v u Q I rx ry h hs;obtain ⟨z,i,c,rfl,rfl,hz,he,q⟩:=h;obtain ⟨t,rfl⟩:=rx;obtain ⟨t',rfl⟩:=ry;obtain ⟨j,h1,h2,h3,h4,h5⟩:=mr he;have hl:z.cps.toList.length=z.length:=by simp [Str.length]
 rw [hl] at h1 h4 h5;have hn:=iq;exact tail_any (typeIs_str s z t) slot_str_getitem.lookup (getItem_str (c:=c) (by
  have e1:decide (i < -(2 ^ 63:Int))=false:=decide_eq_false (by omega);have e2:decide (i ≥ 2 ^ 63)=false:=decide_eq_false (by omega);rw [e1,e2,Bool.or_false]) (by rw [h1]; simpa using h2) ⟨.str ⟨#[c]⟩,H,I.tok _,⟨_,rfl⟩,q⟩) hs
theorem pK (its:List Value) (n j:Nat) (u:Value):Obj.mapSeq (·.setIfInBounds j u) {cls:=.type "list",data:=.seq its.toArray n} = {cls:=.type "list",data:=.seq (its.set j u).toArray n}:=by
 simp [Obj.mapSeq]
theorem Inv.lst {pins:List (Addr × Obj)} {σ:St} {H:Hp} {s:Shared} {p:Addr} {xs:List V} (I:Inv X pins σ H s) (h:H p=some (.lst xs)) :
  ∃(its:List Value) (n:Nat),Vals xs its∧s.heap.get? p=some {cls:=.type "list",data:=.seq its.toArray n}∧xs.length≤sizeLine:=by
 obtain ⟨z,its,n,r,e⟩:=I.hok p _ h;exact ⟨its,n,r,e,z⟩
theorem Inv.lstUpd {pins:List (Addr × Obj)} {σ:St} {H:Hp} {s:Shared} {p:Addr} {xs ys:List V} {its its':List Value} {n n':Nat} {f:Obj→Obj} (I:Inv X pins σ H s) (h:H p=some (.lst xs))
  (ho:s.heap.get? p=some {cls:=.type "list",data:=.seq its.toArray n}) (hf:f {cls:=.type "list",data:=.seq its.toArray n} = {cls:=.type "list",data:=.seq its'.toArray n'}) (r:Vals ys its') (hz:ys.length≤sizeLine) (t:Nat) :
  Inv X pins σ (upd H p (.lst ys)) {s with heap:=s.heap.update p f,toks:=t}:=by
 have e:(s.heap.update p f).get? p=some {cls:=.type "list",data:=.seq its'.toArray n'}:=by
  rw [Heap.get?_update_self f ho (by rw [hf] <;> rfl),hf]
 refine I.write (x:=p) (e:=p) (by rw [h]; trivial) (.inl rfl) (fun b u hb q=>(Heap.get?_update_other _ _ (Ne.symm hb)).trans q) ⟨_,e⟩ ?_;exact ⟨hz,its',n',r,e⟩
def z9:V→V→V→Hp→(Hp→Prop)→Prop:=fun o i v H Q=>∃p xs k j,o = .ref p∧i = .int k∧H p=some (.lst xs)∧ixN xs.length k=some j∧Q (upd H p (.lst (xs.set j v)))
theorem nV:zU X z9:=by
 intro pins s σ H o i v ov iv u Q I ro ri rv h;obtain ⟨p,xs,k,j,rfl,rfl,hp,hj,q⟩:=h;cases ro;obtain ⟨t,rfl⟩:=ri;obtain ⟨its,n,r,ho,hz⟩:=I.lst hp;obtain ⟨h1,h2,h3,h4⟩:=qF hj;have hl:=r.length;have hn:=iq;have I':Inv X pins σ (upd H p (.lst (xs.set j v))) {s with heap:=s.heap.update p (Obj.mapSeq (·.setIfInBounds j u))}:=
  I.lstUpd hp ho (pK its n j u) (r.set rv j) (by rw [List.length_set]; exact hz) s.toks
 by_cases h0:0≤k
 ·have hk:k.toNat=j:=by
   rw [seqIndex_of h0 h4] at h1;exact Option.some.inj h1
  exact PySem.W.ki_setAt ho h0 (by omega) (by rw [List.size_toArray,← hl]; exact h4) (by rw [hk]; exact ⟨_,I',q⟩)
 ·have hk:(k + (its.toArray.size:Int)).toNat=j:=by
   rw [seqIndex_neg (by omega) h3] at h1;rw [List.size_toArray,← hl];exact Option.some.inj h1
  exact PySem.W.ki_setBack ho (by omega) (by rw [List.size_toArray,← hl]; exact h3) (by omega) (by rw [hk]; exact ⟨_,I',q⟩)
theorem iG (lo hi:Option Int) (n:Nat):(sliceBounds lo hi none n).1=((HT.sIx n 0 lo:Nat):Int)∧(sliceBounds lo hi none n).2.1=((HT.sIx n n hi:Nat):Int)∧(sliceBounds lo hi none n).2.2=1:=by
 refine ⟨?_,?_,rfl⟩
 ·cases lo with
  | none=>simp [sliceBounds,HT.sIx]
  | some i=>
   simp only [sliceBounds,HT.sIx,Option.getD_none,show (1:Int) > 0 by decide,if_true]
   by_cases h:i < 0
   ·simp only [h,if_true] <;> omega
   ·simp only [h,if_false] <;> omega
 ·cases hi with
  | none=>simp [sliceBounds,HT.sIx]
  | some i=>
   simp only [sliceBounds,HT.sIx,Option.getD_none,show (1:Int) > 0 by decide,if_true]
   by_cases h:i < 0
   ·simp only [h,if_true] <;> omega
   ·simp only [h,if_false] <;> omega
theorem ko (its:List Value) (lo hi:Option Int):slicePick its.toArray lo hi none=((its.drop (HT.sIx its.length 0 lo)).take (HT.sIx its.length its.length hi - HT.sIx its.length 0 lo)).toArray:=by
 obtain ⟨h1,h2,h3⟩:=iG lo hi its.toArray.size;unfold slicePick;rw [h1,h2,h3];simp only [sliceRange_one,pick_run,List.size_toArray] <;> rfl
def AT (K:PySem.W.Frag):V→Option Int→Option Int→Hp→VK→Prop:=fun x lo hi H Q=>∃a xs,x = .ref a∧SqL K H a xs∧∀p,H p=none→Q (.ref p) (upd H p (.lst (ju xs lo hi)))
theorem fj:SlR X (AT X.K):=by
 intro pins s σ H x v vl vu lo hi sl Q I rx hs pl pu h;obtain ⟨a,xs,rfl,hx,q⟩:=h;cases rx;obtain ⟨its,r,ht,hz⟩:=I.list hx;have hlen:=r.length;refine ⟨"list",_,slot_list_getitem.lookup,ht.isList.typeIs,?_⟩;refine wpAny_getItem_list_slice ht.isList hs pl pu .none (by simp) ?_ (by rw [List.size_toArray] <;> omega);rw [ko,← hlen];refine ⟨.ref s.heap.objs.size,_,I.laid (t':=s.toks) (o:=.lst (ju xs lo hi)) (fun b ob q=>Heap.get?_push_of_some _ q) (Nat.le_refl _) ?_,rfl,q _ (I.hok.fresh (Nat.le_refl _))⟩;exact ⟨Nat.le_trans (nU xs lo hi) hz,_,0,(r.drop (HT.sIx xs.length 0 lo)).take (HT.sIx xs.length xs.length hi - HT.sIx xs.length 0 lo),Heap.get?_push_size _ rfl⟩
def cA:V→Bool
 | .non=>true
 | .bl _=>true
 | .int _=>true
 | .str _=>true
 | _=>false
def eqV:V→V→Bool
 | .non,.non=>true
 | .bl a,.bl b=>a == b
 | .bl a,.int b=>(if a then 1 else 0) == b
 | .int a,.bl b=>a == (if b then 1 else 0)
 | .int a,.int b=>a == b
 | .str a,.str b=>a == b
 | _,_=>false
theorem pL {A:Around} {s:Shared} {y x:V} {u v:Value} (ry:RelV y u) (rx:RelV x v) (fy:cA y=true) (fx:cA x=true):SeqAt.EqAt A s u v (eqV y x):=by
 cases y with
 | non=>
  cases ry;cases x with
  | non=>cases rx; exact SeqAt.EqAt.same _
  | bl b=>cases rx; exact SeqAt.EqAt.none_bool b
  | int b=>obtain ⟨t,rfl⟩:=rx; exact SeqAt.EqAt.none_int b t
  | str b=>obtain ⟨t,rfl⟩:=rx; exact SeqAt.EqAt.none_str b t
  | _=>exact absurd (show false=true from fx) Bool.false_ne_true
 | bl a=>
  cases ry;cases x with
  | non=>cases rx; exact SeqAt.EqAt.bool_none a
  | bl b=>cases rx; exact SeqAt.EqAt.bool_bool a b
  | int b=>obtain ⟨t,rfl⟩:=rx; exact SeqAt.EqAt.bool_int a b t
  | str b=>obtain ⟨t,rfl⟩:=rx; exact SeqAt.EqAt.bool_str a b t
  | _=>exact absurd (show false=true from fx) Bool.false_ne_true
 | int a=>
  obtain ⟨t',rfl⟩:=ry;cases x with
  | non=>cases rx; exact SeqAt.EqAt.int_none a t'
  | bl b=>cases rx; exact SeqAt.EqAt.int_bool a t' b
  | int b=>obtain ⟨t,rfl⟩:=rx; exact SeqAt.EqAt.int_int a t' b t
  | str b=>obtain ⟨t,rfl⟩:=rx; exact SeqAt.EqAt.int_str a t' b t
  | _=>exact absurd (show false=true from fx) Bool.false_ne_true
 | str a=>
  obtain ⟨t',rfl⟩:=ry;cases x with
  | non=>cases rx; exact SeqAt.EqAt.str_none a t'
  | bl b=>cases rx; exact SeqAt.EqAt.str_bool a t' b
  | int b=>obtain ⟨t,rfl⟩:=rx; exact SeqAt.EqAt.str_int a t' b t
  | str b=>obtain ⟨t,rfl⟩:=rx; exact SeqAt.EqAt.str_str a t' b t
  | _=>exact absurd (show false=true from fx) Bool.false_ne_true
 | _=>exact absurd (show false=true from fy) Bool.false_ne_true
def eqU (x:V) (u:Value):Bool:=match u with
 | .none=>eqV .non x
 | .bool b=>eqV (.bl b) x
 | .int i _=>eqV (.int i) x
 | .str z _=>eqV (.str z) x
 | _=>false
theorem mw {x y:V} {u:Value} (r:RelV y u) (f:cA y=true):eqU x u=eqV y x:=by
 cases y with
 | non=>cases r; rfl
 | bl b=>cases r; rfl
 | int i=>obtain ⟨t,rfl⟩:=r; rfl
 | str z=>obtain ⟨t,rfl⟩:=r; rfl
 | _=>exact absurd (show false=true from f) Bool.false_ne_true
theorem iH {x:V}:∀{xs:List V} {us:List Value},Vals xs us→xs.all cA=true→us.any (eqU x)=xs.any fun y=>eqV y x
 | _,_,.nil,_=>rfl
 | y :: xs,u :: us,.cons r t,f=>by
  rw [List.all_cons,Bool.and_eq_true] at f;rw [List.any_cons,List.any_cons,mw r f.1,iH t f.2]
theorem eW {A:Around} {s:Shared} {x:V} {v:Value} (rx:RelV x v) (fx:cA x=true):∀{xs:List V} {us:List Value},Vals xs us→xs.all cA=true→∀u∈us,SeqAt.EqAt A s u v (eqU x u)
 | _,_,.nil,_=>fun u hu=>by cases hu
 | y :: xs,u :: us,.cons r t,f=>fun u' hu=>by
  rw [List.all_cons,Bool.and_eq_true] at f;rcases List.mem_cons.mp hu with rfl | hu
  ·rw [mw r f.1]; exact pL r rx f.1 fx
  ·exact eW rx fx t f.2 u' hu
def inV (x:V) (xs:List V):Bool:=xs.any fun y=>eqV y x
def rIn (K:PySem.W.Frag) (neg:Bool):R2:=fun x y H Q=>∃p xs,y = .ref p∧(SqL K H p xs∨SqT K H p xs)∧cA x=true∧xs.all cA=true∧Q (.bl (if neg then !inV x xs else inV x xs)) H
theorem rV:OpR X (compareOp .In) (rIn X.K false):=by
 intro pins s σ H x y v u Q I rx ry h;obtain ⟨p,xs,rfl,hq,fx,fs,q⟩:=h;cases ry;rcases hq with hq | hq
 ·obtain ⟨its,r,pl,hz⟩:=I.list hq;refine SeqAt.in_listAt (eqU x) pl.isList (fun w hw=>eW rx fx r fs w (by simpa using hw)) ⟨.bl _,H,I,rfl,?_⟩;rw [show its.toArray.any (eqU x)=its.any (eqU x) by simp,iH r fs];exact q
 ·obtain ⟨its,r,pl,hz⟩:=I.tuple hq;refine SeqAt.in_tupleAt (eqU x) pl (fun w hw=>eW rx fx r fs w (by simpa using hw)) ⟨.bl _,H,I,rfl,?_⟩;rw [show its.toArray.any (eqU x)=its.any (eqU x) by simp,iH r fs];exact q
theorem cg:OpR X (compareOp .NotIn) (rIn X.K true):=by
 intro pins s σ H x y v u Q I rx ry h;obtain ⟨p,xs,rfl,hq,fx,fs,q⟩:=h;cases ry;rcases hq with hq | hq
 ·obtain ⟨its,r,pl,hz⟩:=I.list hq;refine SeqAt.notIn_listAt (eqU x) pl.isList (fun w hw=>eW rx fx r fs w (by simpa using hw)) ⟨.bl _,H,I,rfl,?_⟩;rw [show its.toArray.any (eqU x)=its.any (eqU x) by simp,iH r fs];exact q
 ·obtain ⟨its,r,pl,hz⟩:=I.tuple hq;refine SeqAt.notIn_tupleAt (eqU x) pl (fun w hw=>eW rx fx r fs w (by simpa using hw)) ⟨.bl _,H,I,rfl,?_⟩;rw [show its.toArray.any (eqU x)=its.any (eqU x) by simp,iH r fs];exact q
theorem aN:dl X (.builtin "len") (fun xs H Q=>∃p ys,xs=[.ref p]∧(SqL X.K H p ys∨SqT X.K H p ys)∧Q (.int ys.length) H):=by
 intro pins s σ H xs us Q I r h;obtain ⟨p,ys,rfl,hq,q⟩:=h;obtain ⟨u,rfl,rx⟩:=vals1 r;cases rx;have hn:=iq;rcases hq with hq | hq
 ·obtain ⟨its,r',pl,hz⟩:=I.list hq;have hlen:=r'.length;exact Calls.call_len_list pl.isList (by simp only [List.size_toArray] <;> omega) ⟨.int ys.length,H,I.tok _,⟨s.toks + 1,by rw [List.size_toArray,hlen]⟩,q⟩
 ·obtain ⟨its,r',pl,hz⟩:=I.tuple hq;have hlen:=r'.length;exact len_tuple pl (by simp only [List.size_toArray] <;> omega) ⟨.int ys.length,H,I.tok _,⟨s.toks + 1,by rw [List.size_toArray,hlen]⟩,q⟩
theorem cD:dl X (.builtin "len") (fun xs H Q=>∃z,xs=[.str z]∧z.length≤sizeLine∧Q (.int z.length) H):=by
 intro pins s σ H xs us Q I r h;obtain ⟨z,rfl,hz,q⟩:=h;obtain ⟨u,rfl,t,rfl⟩:=vals1 r;have hn:=iq;exact len_str (by omega) ⟨.int z.length,H,I.tok _,⟨_,rfl⟩,q⟩
theorem fk:dl X (.type "list") (fun xs H Q=>∃p ys,xs=[.ref p]∧(SqL X.K H p ys∨SqT X.K H p ys)∧∀l,H l=none→Q (.ref l) (upd H l (.lst ys))):=by
 intro pins s σ H xs us Q I r h;obtain ⟨p,ys,rfl,hq,q⟩:=h;obtain ⟨u,rfl,rx⟩:=vals1 r;cases rx;have fin:∀(its:List Value),Vals ys its→ys.length≤sizeLine→∀(h':Heap) (c':Nat),(∀b o',s.heap.get? b=some o'→h'.get? b=some o')→
   h'.get? s.heap.objs.size=some {cls:=.type "list",dict:=none,data:=.seq its.toArray c',slots:=#[]}→EP X pins σ Q (.ref s.heap.objs.size) {s with heap:=h'}:=fun its r' hz h' c' kp e=>
  ⟨.ref s.heap.objs.size,_,I.laid (t':=s.toks) kp (Nat.le_refl _) (show ObjOk X.prog X.w _ h' _ (.lst ys) from ⟨hz,its,c',r',e⟩),rfl,q _ (I.hok.fresh (Nat.le_refl _))⟩
 rcases hq with hq | hq
 ·obtain ⟨its,r',pl,hz⟩:=I.list hq;have hlen:=r'.length;obtain ⟨o,ho,hc,n,hd⟩:=pl.isList;exact call_list_seq p (.inl rfl) ho hc hd (fun h' c' kp e=>fin its r' hz h' c' kp e) (by simp only [List.size_toArray] <;> omega)
 ·obtain ⟨its,r',pl,hz⟩:=I.tuple hq;have hlen:=r'.length;obtain ⟨o,ho,hc,n,hd⟩:=pl;exact call_list_seq p (.inr rfl) ho hc hd (fun h' c' kp e=>fin its r' hz h' c' kp e) (by simp only [List.size_toArray] <;> omega)
theorem kq:dl X (.type "tuple") (fun xs H Q=>∃p ys,xs=[.ref p]∧((SqL X.K H p ys∧∀l,H l=none→Q (.ref l) (upd H l (.tup ys)))∨(SqT X.K H p ys∧Q (.ref p) H))):=by
 intro pins s σ H xs us Q I r h;obtain ⟨p,ys,rfl,h⟩:=h;obtain ⟨u,rfl,rx⟩:=vals1 r;cases rx;rcases h with ⟨hq,q⟩ | ⟨hq,q⟩
 ·obtain ⟨its,r',pl,hz⟩:=I.list hq;have hlen:=r'.length;refine call_tuple_list pl.isList (fun h' kp=>?_) (by simp only [List.size_toArray] <;> omega);have I1:Inv X pins σ H {s with heap:=h'}:=I.kept (t':=s.toks) kp;have I2:Inv X pins σ (upd H h'.objs.size (.tup ys)) {s with heap:=h'.push {cls:=.type "tuple",data:=.seq its.toArray}}:=
   I1.laid (t':=s.toks) (fun b o e=>Heap.get?_push_of_some _ e) (Nat.le_refl _) (show ObjOk X.prog X.w _ _ _ (.tup ys) from ⟨hz,its,r',IsTup.new _ _⟩)
  exact ⟨.ref h'.objs.size,_,I2,rfl,q _ (I1.hok.fresh (Nat.le_refl _))⟩
 ·obtain ⟨its,r',pl,hz⟩:=I.tuple hq;exact call_tuple_same pl ⟨.ref p,H,I,rfl,q⟩
def tyV (K:PySem.W.Frag) (T:String) (x:V) (H:Hp):Prop:=match x with
 | .str _=>T = "str"
 | .int _=>T = "int"
 | .ref p=>(T = "list"∧∃xs,SqL K H p xs)∨(T = "tuple"∧∃o,K.lookup p=some o∧o.cls = .type "tuple"∧o.dict=none)∨
   (T = "dict"∧((∃kvs,H p=some (.dK kvs))∨∃kvs,H p=some (.dT kvs)))∨(T = "set"∧∃S n,H p=some (.set S n))
 | _=>False
theorem yP {pins:List (Addr × Obj)} {σ:St} {H:Hp} {s:Shared} {T:String} {x:V} {v:Value} (I:Inv X pins σ H s) (r:RelV x v) (ty:tyV X.K T x H) :
  s.TypeIs v T∧∀a,v = .ref a→∃ob,s.heap.get? a=some ob∧ob.dict=none:=by
 cases x with
 | str z=>
  obtain ⟨t,rfl⟩:=r;cases (show T = "str" from ty);exact ⟨typeIs_str s z t,fun _ e=>nomatch e⟩
 | int i=>
  obtain ⟨t,rfl⟩:=r;cases (show T = "int" from ty);exact ⟨typeIs_int s i t,fun _ e=>nomatch e⟩
 | ref p=>
  cases r;rcases ty with ⟨rfl,xs,hq⟩ | ⟨rfl,o,hk,hc,hd⟩ | ⟨rfl,hk⟩ | ⟨rfl,S,n,hk⟩
  ·obtain ⟨its,_,pl,_⟩:=I.list hq;refine ⟨pl.isList.typeIs,fun a e=>?_⟩;cases e;obtain ⟨o,n,e,c,hd,_⟩:=pl;exact ⟨o,e,hd⟩
  ·refine ⟨⟨o,I.kIn p o hk,hc⟩,fun a e=>?_⟩;cases e;exact ⟨o,I.kIn _ o hk,hd⟩
  ·have z:∃o,s.heap.get? p=some o∧o.ExactDict:=by
    rcases hk with ⟨kvs,hk⟩ | ⟨kvs,hk⟩
    ·obtain ⟨_,_,_,_,o,_,_,e,ex,_⟩:=I.hok p _ hk;exact ⟨o,e,ex⟩
    ·obtain ⟨_,_,_,_,o,_,_,e,ex,_⟩:=I.hok p _ hk;exact ⟨o,e,ex⟩
   obtain ⟨o,e,ex⟩:=z;refine ⟨⟨o,e,ex.1⟩,fun a e2=>?_⟩;cases e2;exact ⟨o,e,ex.2.1⟩
  ·obtain ⟨o,_,_,_,e,ex,_⟩:=I.hok p _ hk;refine ⟨⟨o,e,ex.1⟩,fun a e2=>?_⟩;cases e2;exact ⟨o,e,ex.2.1⟩
 | _=>exact False.elim ty
def tBM (K:PySem.W.Frag) (T:String) (r:V→List V→Hp→VK→Prop) (to:TE) (t:TA):TE:=fun σ H Q=>to σ H fun x H1=>tyV K T x H1∧t σ H1 fun xs H2=>r x xs H2 Q
variable {o e:Expr} {es:List Expr} {to:TE} {t:TA} {name:Str} {apos cpos:Pos} {T id:String} {r:V→List V→Hp→VK→Prop}
theorem Ab (pa:PlainAttrs T) (slot:Slot T name id) (hty:typeOf (.builtin id)=pure (.type "method_descriptor")) (hm:MtR X id r) (ho:PE X o to) (ha:PA X (e :: es) t)
  (hbase:attributeBase o name X.env (eval o X.env)=eval o X.env:=by rfl)
  (hfew:((backTo cpos (starEach (e :: es) X.env)).all (fun x=>!x.1) && (backToKw cpos (keywordEach [] X.env)).all (fun x=>x.1.isSome)
   && decide ((e :: es).length + ([]:List Keyword).length + (if ([]:List Keyword).isEmpty then 0 else 1) < 30))=true:=by rfl)
  (hline:(apos.endLine == cpos.line)=true:=by rfl) (hs:starEach (e :: es) X.env=(false,eval e X.env) :: starEach es X.env:=by rfl) (hplain:(backTo cpos (starEach es X.env)).any (·.1)=false:=by rfl) :
  PE X (.Call (.Attribute o name apos) (e :: es) [] cpos) (tBM X.K T r to t):=by
 intro pins s σ H Q I h;refine wpAny_Call_method_late hbase hfew hline rfl (thn (ho pins s σ H _ I h) fun v s1 ⟨x,H1,I1,r1,ty,q1⟩=>?_);obtain ⟨h1,h2⟩:=yP I1 r1 ty;refine ⟨T,id,pa,slot,hty,h1,h2,?_⟩;have hA:=ha cpos pins s1 σ H1 _ I1 q1;rw [hs] at hA ⊢;refine Calls.callWith_builtin (by show (false || (backTo cpos (starEach es X.env)).any (·.1))=false; rw [hplain] <;> rfl) (Calls.evalArgs_plain ?_);exact thn hA fun us s2 ⟨vs,H2,I2,r2,q2⟩=>hm pins s2 σ H2 x vs v us Q I2 r1 r2 q2
/- xs.append(e),list.index on a module's tuple .. are MtR facts of 06m -/
end
def MtM (X:Cx) (id:String) (r:V→List V→Hp→VK→Prop):Prop:=
 ∀(pins:List (Addr × Obj)) (s:Shared) (σ:St) (H:Hp) (x:V) (xs:List V) (v:Value) (us:List Value) (Q:VK),Inv X pins σ H s→RelV x v→Vals xs us→r x xs H Q→
  wpAny (model X.prog X.w) X.A (call (.builtin id) (v :: us)) (EP X pins σ Q) X.xe s
theorem Vals.one:∀{x:V} {us:List Value},Vals [x] us→∃u,us=[u]∧RelV x u
 | _,_,.cons r .nil=>⟨_,rfl,r⟩
theorem Vals.reverse {xs:List V} {us:List Value} (h:Vals xs us):Vals xs.reverse us.reverse:=by
 induction h with
 | nil=>exact .nil
 | cons r t ih=>rw [List.reverse_cons,List.reverse_cons]; exact Vals.append ih (.cons r .nil)
section
variable {X:Cx} {pins:List (Addr × Obj)} {σ:St} {H:Hp} {s:Shared} {l b:Addr} {xs ys zs:List V}
theorem Inv.lset {its its':List Value} {n:Nat} {f:Array Value→Array Value} {t':Nat} (I:Inv X pins σ H s) (hH:H l=some (.lst xs))
  (e:s.heap.get? l=some {cls:=.type "list",data:=.seq its.toArray n}) (hf:f its.toArray=its'.toArray) (hv:Vals ys its') (hz:ys.length≤sizeLine) :
  Inv X pins σ (upd H l (.lst ys)) {s with heap:=s.heap.update l (Obj.mapSeq f),toks:=t'}:=by
 have q:=PySem.IsL.update e f;rw [hf] at q;refine I.write (x:=l) (e:=l) (by rw [hH]; exact trivial) (.inl rfl) (fun b' u hb hu=>(Heap.get?_update_other s.heap (Obj.mapSeq f) (Ne.symm hb)).trans hu) ⟨_,q⟩ ?_;exact ⟨hz,its',_,hv,q⟩
theorem Inv.lnew {its:List Value} {t':Nat} (I:Inv X pins σ H s) (hv:Vals ys its) (hz:ys.length≤sizeLine) :
  Inv X pins σ (upd H s.heap.objs.size (.lst ys)) {s with heap:=s.heap.push {cls:=.type "list",data:=.seq its.toArray},toks:=t'}:=
 I.laid (fun _ _ q=>Heap.get?_push_of_some _ q) (Nat.le_refl _) ⟨hz,its,0,hv,Heap.get?_push_size _ rfl⟩
theorem Inv.fresh (I:Inv X pins σ H s):H s.heap.objs.size=none:=I.hok.fresh (Nat.le_refl _)
theorem Inv.lstM (I:Inv X pins σ H s) (hH:H l=some (.lst xs)):xs.length≤sizeLine∧∃(its:List Value) (n:Nat),Vals xs its∧xs.length=its.length∧s.heap.get? l=some {cls:=.type "list",data:=.seq its.toArray n}:=by
 obtain ⟨z,its,n,r,e⟩:=I.hok l _ hH;exact ⟨z,its,n,r,r.length,e⟩
theorem ue {n:Nat} (h:n≤sizeLine):Builtin.List.listTooLong n=false:=by
 unfold Builtin.List.listTooLong;exact decide_eq_false (by omega)
end
section
variable {X:Cx}
def wt:V→List V→Hp→VK→Prop:=fun x vs H Q=>∃l xs y,x = .ref l∧vs=[y]∧H l=some (.lst xs)∧xs.length < sizeLine∧Q .non (upd H l (.lst (xs ++ [y])))
theorem cP:MtM X "list.append" wt:=by
 intro pins s σ H x vs v us Q I rx rv h;obtain ⟨l,xs,y,rfl,rfl,hH,hz,q⟩:=h;cases rx;obtain ⟨u,rfl,ru⟩:=rv.one;obtain ⟨z,its,n,r,hl,e⟩:=I.lstM hH;refine call_meets F.slot_list_append ⟨_,e,rfl⟩ F.entry_list_append (F.args_list_append_2 _ _) (PySem.list_append l its.toArray n u (by rw [List.size_toArray]; omega)) ⟨e,?_⟩;refine ⟨.non,_,I.lset (its':=its ++ [u]) hH e (by simp) (r.append (.cons ru .nil)) ?_,rfl,q⟩;rw [List.length_append,List.length_singleton];omega
def wu:V→List V→Hp→VK→Prop:=fun x vs H Q=>∃l b xs zs,x = .ref l∧vs=[.ref b]∧H l=some (.lst xs)∧H b=some (.lst zs)∧xs.length + zs.length≤sizeLine∧Q .non (upd H l (.lst (xs ++ zs)))
theorem jb:MtM X "list.extend" wu:=by
 intro pins s σ H x vs v us Q I rx rv h;obtain ⟨l,b,xs,zs,rfl,rfl,hH,hB,hz,q⟩:=h;cases rx;obtain ⟨u,rfl,ru⟩:=rv.one;cases ru;obtain ⟨z,its,n,r,hl,e⟩:=I.lstM hH;obtain ⟨z2,its2,n2,r2,hl2,e2⟩:=I.lstM hB;have hsz:its.toArray.size + its2.toArray.size≤sizeLine:=by rw [List.size_toArray,List.size_toArray]; omega
 have hlong:¬(!its.toArray.isEmpty && Builtin.List.listTooLong (its.toArray.size + its2.toArray.size))=true:=by
  rw [ue hsz,Bool.and_false];exact Bool.false_ne_true
 refine call_meets F.slot_list_extend ⟨_,e,rfl⟩ F.entry_list_extend (F.args_list_extend_2 _ _)
  (AutoSeq1.list_extend_list_list_0 l its.toArray n b its2.toArray n2 hlong (by rw [List.size_toArray]; omega) (by omega)) ⟨e,e2,?_⟩
 refine ⟨.non,_,I.lset (its':=its ++ its2) hH e (by simp) (r.append r2) ?_,rfl,q⟩;rw [List.length_append];omega
def AU:R2:=fun x y H Q=>∃l b xs zs,x = .ref l∧y = .ref b∧H l=some (.lst xs)∧H b=some (.lst zs)∧xs.length + zs.length≤sizeLine∧∀p,H p=none→Q (.ref p) (upd H p (.lst (xs ++ zs)))
theorem jc:OpR X (binaryOp .Add) AU:=by
 intro pins s σ H x y v u Q I rx ry h;obtain ⟨l,b,xs,zs,rfl,rfl,hH,hB,hz,q⟩:=h;cases rx;cases ry;obtain ⟨z,its,n,r,hl,e⟩:=I.lstM hH;obtain ⟨z2,its2,n2,r2,hl2,e2⟩:=I.lstM hB;refine PySem.P.add_list e e2 ?_ (by rw [List.size_toArray,List.size_toArray]; omega);have ea:its.toArray ++ its2.toArray=(its ++ its2).toArray:=by simp
 rw [ea];exact ⟨.ref _,_,I.lnew (t':=s.toks) (r.append r2) (by rw [List.length_append]; omega),rfl,q _ I.fresh⟩
end
section
variable {prog:Program} {w:World} {A:Around} {E:Value→Shared→Prop} {s:Shared}
set_option maxRecDepth 100000 in
end
section
variable {X:Cx}
end
end L2
namespace Att
open PySem PySem.W PySem.Calls PyProof.Rows
theorem jv {P:Params} {h:Heap}:∀(ns:List Int) (vs:List Value),WellAll P h vs (ns.map WData.int)→IntsAre vs ns:=by
 intro ns
 induction ns with
 | nil=>
  intro vs w;rw [List.map_nil] at w;cases w;exact .nil
 | cons n ns ih=>
  intro vs w;rw [List.map_cons] at w;cases w with
  | cons a b=>
   cases a;exact .cons _ _ (ih _ b)
theorem rW {l:OpenLaw} {n:Nat} (hn:l.most=some n) {P:Params} {h:Heap} {args:List WData} {vals:List Value}
  (hpre:l.row.toRowW.claim.pre args=true) (hwl:WellAll P h vals args) :
  ∃a vs ns,vals=[Value.ref a]∧args=[WData.list (ns.map WData.int)]∧h.get? a=some {cls:=.type "list",data:=.seq vs.toArray}∧IntsAre vs ns∧ns.length≤n:=by
 have hsh:WShape.hasAll [] args [.list .int]=true:=(pre_splitW hpre).1;have hc:l.pre.holds [] {args:=args}=true:=(pre_splitW hpre).2;obtain ⟨d,r,rfl,h1,h2⟩:=hasAllW_cons hsh;obtain rfl:=hasAllW_nil h2;obtain ⟨xs,rfl,h3⟩:=hasW_list h1;obtain ⟨ns,rfl⟩:=items_int h3;have hlen:ns.length≤n:=by
  unfold OpenLaw.pre at hc;have h4:(WTm.not (.lt (.lit (.int (n:Int))) (.len (.arg 0)))).holds [] {args:=[.list (ns.map .int)]}=true:=by
   have h4:=(holds_andW hc).1;rw [hn] at h4;exact h4
  have h5:=condW_of h4 (w_not (w_lt w_lit (w_len_list (w_arg rfl))));rw [List.length_map] at h5;refine Nat.le_of_not_lt fun q=>?_;have q':(n:Int) < ((ns.length:Nat):Int):=by omega
  first
   | (rw [decide_eq_true q'] at h5; exact absurd h5 (by decide))
   | (simp at h5; omega)
 cases hwl with
 | cons w1 w2=>
  cases w2;cases w1 with
  | list ho hall=>exact ⟨_,_,ns,rfl,rfl,ho,jv ns _ hall,hlen⟩
theorem rX (l:OpenLaw) (args:List WData):l.row.toRowW.claim.post args (.bool true) args=true:=
 postW_of (r:=l.row.toRowW) (X:=(true == true))
  (show WShape.has [] (.bool true) .bool=true by first | rfl | decide | simp [WShape.has,WShape.arms,WShape.armsAll])
  (show (WTm.eq .res (.lit (.bool true))).value [] {args:=args,res:=some (.bool true),after:=args}=some (.bool (true == true)) from w_eq_bool (w_res rfl) w_lit) rfl
theorem attach_call {l:OpenLaw} {n:Nat} {q:Program} {loose:List Str} {XP:(Str→Option Value)→Heap→Prop} {YP:World→Heap→Prop} {d:DefRec}
  (hn:l.most=some n) (hdf:d.params.defaults=[])
  (call:∀(w:World) (s₀ s₁:Shared) (mg mb:Str→Option Value) (fa:Addr) (o:Obj) (pm cd doc:Value) (a:Addr) (vs:List Value) (ns:List Int),
   Ground q loose [] XP w s₀ mg mb s₁.heap→YP w s₁.heap→
   s₁.heap.get? fa=some o→o.data = .func (docDef d.name d.params d.body d.scope pm cd doc)→s₁.heap.CodeRec cd d.name→mg d.name=some (.ref fa)→
   s₁.heap.get? a=some {cls:=.type "list",data:=.seq vs.toArray}→IntsAre vs ns→ns.length≤n→s₁.gens = #[]→
   codeAny (model l.prog w) callerA (.call (.ref fa) ⟨[.ref a],[]⟩) (fun r s'=>r = .ok (.ret (.bool true))∧OldK s₁.heap s'.heap∧s'.os=s₁.os∧AllBare s'.gens) s₁) :
  WalkO q loose XP YP l.row.toRowW d [] (fun f vs=>PySem.call f vs):=by
 intro w s₀ s₁ mg mb G Y fa o pm cd doc dV kV ho hd hcd hD hmg hg args vals as hpre hlay hrd hwl hlo;obtain rfl:dV = .none:=Dflts.none hD hdf;obtain rfl:kV = .none:=Dflts.noKw hD;obtain ⟨a,vs,ns,rfl,rfl,hobj,hints,hlen⟩:=rW hn hpre hwl;refine enter_call (codeAny_mono (call w s₀ s₁ mg mb fa o pm cd doc a vs ns G Y ho (fd_plain hd) hcd hmg hobj hints hlen hg) fun r s' hq=>?_);obtain ⟨rfl,h2,h3,h4⟩:=hq;exact ⟨.inl ⟨.bool true,.bool true,[],rfl,fun _=>rfl,.bool true,rX l _,fun _=>⟨List.Pairwise.nil,fun _ hm=>(nomatch hm)⟩⟩,h2,h3,h4⟩
section
variable {prog:Program} {w:World} {A:Around} {E:Value→Shared→Prop} {s:Shared} {K:Frag}
end
end Att
namespace L2
open PySem PySem.Spec PyProof.Rows
theorem lA:∀{vs:List Value} {ns:List Int},IntsAre vs ns→Vals (ns.map V.int) vs
 | _,_,.nil=>.nil
 | _,_,.cons n t h=>.cons ⟨t,rfl⟩ (lA h)
end L2
/- THE LAST THEOREM (shape; LID,My.* are yours):
   My.Adr: a structure of the addresses that your layer names (classes,functions); My.Txt K t: a structure (Prop) of the equations over K;
   My.txt_mk:{K} {implicit addresses ..} (e1:nsIn K mainGlobals "law" = some (some (.ref f))) (e2:K.lookup f=some ⟨oc,od,.func (fnOf "law" "law" params body scope dV kV doc pm an cdv ct),sl⟩) (e3:codeIn K cdv "law" = true) ..:∃t,My.Txt K t
set_option maxRecDepth 100000 in
set_option maxHeartbeats 0 in
theorem PySem.Challenge.cw_LID_holds : PySem.Challenge.rw_LID.Holds := by
 w_on; o_law; k_head; (case hw=>w_witness2)
 k_fill
 refine L2.walk_of (l:=PySem.Challenge.rw_LID) (n:=63) (k:=40) (x:="script") (CX:=fun w=>..) (sp:=fun _=>My.sp_law) rfl (by decide) rfl ⟨rfl,by decide,by decide⟩ (fun w h Y=>PySem.W.kIn_of Y) ?F ?S ?C
 case F=>
  intro w mg fa h KX G hmg;have T:∃t,My.Txt (L2.KOf KX) t:=by
   dsimp only [L2.KOf]                          -- K must stand as «<heap const> w.params» for k_is;refine' My.txt_mk ?e1 ?e2 ?e3 ..
   (case e1=>PySem.W.k_is)                    -- in the order: a name -> its address -> its object -> its parts
   (case e2=>PySem.W.k_is)
   ..
  obtain ⟨t,T⟩:=T;have e0:=hmg.symm.trans (PySem.W.mg_of KX G T.law);cases e0                                       -- fa is the law's own address;exact ⟨_,fun s u=>.of_eq rfl,fun base kb nb=>My.law_fn T kb nb⟩     -- if «.of_eq rfl» comes too early: refine' ⟨_,?b,fun base kb nb=>My.law_fn T kb nb⟩; exact fun s u=>.of_eq rfl
 case S=>exact fun w H a ns hl hO hS=>..
 case C=>exact ..
(the tactic k_is has no namespace: write k_is) -/
namespace L2
open PySem PySem.Spec PyProof.Rows
def aD (s:Stmt):Arguments:=match s with
 | .FunctionDef _ a _ _ _ _ _ _ _ _=>a
 | _=>{posonlyargs:=[],args:=[],vararg:=none,kwonlyargs:=[],kw_defaults:=[],kwarg:=none,defaults:=[]}
def aC (s:Stmt):List Stmt:=match s with
 | .FunctionDef _ _ b _ _ _ _ _ _ _=>b
 | _=>[]
def af (s:Stmt):Scope:=match s with
 | .FunctionDef _ _ _ _ _ _ sc _ _ _=>sc
 | _=>{kind:=.function,names:=[],isGenerator:=false,isCoroutine:=false}
abbrev E0:XK:=fun _ _ _=>False
section
variable {P:Program} {w:World} {K:PySem.W.Frag} {mg:Str→Option Value} {base:Heap}
end
section
variable {X:Cx}
theorem pv (i:Nat) {x:Str} {pos:Pos} (hN:X.N[i]? = some x:=by rfl) (hv:Vis X.env.scope x:=by first | exact Or.inl rfl | exact Or.inr (Or.inl rfl) | exact Or.inr (Or.inr rfl)) (hd:(x == ("__debug__" : Str))=false:=by decide)
  (hcd:(x == ("__classdict__" : Str))=false:=by decide):PE X (.Name x pos) (vW i):=yw hN hv hd hcd
end
theorem aU {A B:Prop} (h:B):if false=true then A else B:=by
 rw [if_neg Bool.false_ne_true];exact h
theorem bc {A B:Prop} (h:A):if true=true then A else B:=by
 rw [if_pos rfl];exact h
theorem bE {c A B:Prop} [Decidable c] (h1:c→A) (h2:¬c→B):if c then A else B:=by
 by_cases h:c
 ·rw [if_pos h];exact h1 h
 ·rw [if_neg h];exact h2 h
def Same (H H':Hp):Prop:=∀b o,H b=some o→H' b=some o
theorem Same.refl (H:Hp):Same H H:=fun _ _ h=>h
theorem Same.trans {H H1 H2:Hp} (a:Same H H1) (b:Same H1 H2):Same H H2:=fun c o h=>b c o (a c o h)
theorem Same.free {H H':Hp} (e:Same H H') {l:Addr} (h:H' l=Option.none):H l=Option.none:=by
 cases q:H l with
 | none=>rfl
 | some o=>
  rw [e l o q] at h;cases h
theorem Same.seq {K:PySem.W.Frag} {H H':Hp} {a:Addr} {xs:List V} (e:Same H H') (h:SqL K H a xs):SqL K H' a xs:=by
 rcases h with (h | ⟨o,h⟩) | h
 ·exact .inl (.inl (e _ _ h))
 ·exact .inl (.inr ⟨o,e _ _ h⟩)
 ·exact .inr h
theorem Inv.turned2 {X:Cx} {pins:List (Addr × Obj)} {σ:St} {H:Hp} {s:Shared} {h':Heap} {t':Nat} {e it:Addr} (I:Inv X pins σ H s)
  (k:∀b o,b≠e→b≠it→s.heap.get? b=some o→h'.get? b=some o) (fe:cX X pins H e) (fi:cX X pins H it):Inv X pins σ H {s with heap:=h',toks:=t'}:=by
 have nit:∀b u,H b=some u→b≠e∧b≠it:=fun b u q=>⟨(fun z=>by rw [z,fe.1] at q; cases q),(fun z=>by rw [z,fi.1] at q; cases q)⟩;have out:∀b,b∉[e,it]→b≠e∧b≠it:=fun b hb=>⟨fun z=>hb (by simp [z]),fun z=>hb (by simp [z])⟩;refine I.step (g':=s.gens) (d':=s.drawn) (ch:=[e,it]) (fun b hb=>?_) (fun b o _ _ hc q _=>k b o (out b hc).1 (out b hc).2 q) (fun b o _ _ hc q _=>⟨o.slots,k b o (out b hc).1 (out b hc).2 q⟩) (fun _ _ _ _ n=>n)
  (fun b o hc q=>⟨o,k b o (out b hc).1 (out b hc).2 q⟩) (fun _ _ q=>q) (fun _ _ _ q=>q) (fun b ps q=>⟨#[],by rw [q]; simp⟩) (fun m hm=>?_) (fun b u q=>?_) I.bare
 ·rcases List.mem_cons.mp hb with z | hb
  ·rw [z]; exact ⟨fe.2.2.2.1,fe.2.1,fe.2.2.2.2.1,fe.2.2.2.2.2⟩
  ·have z:b=it:=by simpa using hb
   rw [z]; exact ⟨fi.2.2.2.1,fi.2.1,fi.2.2.2.2.1,fi.2.2.2.2.2⟩
 ·obtain ⟨o,es,ep,ho,r⟩:=hm;exact ⟨o,es,ep,k _ o (Ne.symm fe.2.1) (Ne.symm fi.2.1) ho,r⟩
 ·refine (I.hok b u q).stay (fun c v hc r=>?_) (fun _ r=>r) fun _ _ r=>r;rcases hc with z | z
  ·rw [z] at r ⊢; exact k b v (nit b u q).1 (nit b u q).2 r
  ·exact k c v (nit c _ z).1 (nit c _ z).2 r
def Ite (K:PySem.W.Frag) (a:Addr):It:=
  ⟨fun i H=>∃xs x,SqL K H a xs∧xs[i]? = some x,fun i H x H'=>∃t y,H t=none∧x = .ref t∧(∀xs,SqL K H a xs→xs[i]? = some y)∧H'=upd H t (.tup [.int i,y]),
   fun i H=>∃xs,SqL K H a xs∧xs.length≤i⟩
theorem rY {P:Program} {w:World} {K:PySem.W.Frag} {es:List Expr} {k:Nat} {pos:Pos} (a e it:Addr) (hne:e≠it) :
  Turn P w K (.Tuple es k pos) (Ite K a) [e,it] e (fun i h=>(∃old,IsEnum h e it i old)∧h.IsListIter it a i) where
 mem:=by simp
 obj:=fun i h st b hb=>by
  obtain ⟨⟨old,he⟩,o,e1,c,d⟩:=st;rcases List.mem_cons.mp hb with z | hb
  ·rw [z]; exact ⟨_,he,fun v z=>by have z':Data.fields _=Data.cell v:=z; cases z'⟩
  ·have z:b=it:=by simpa using hb
   rw [z]; exact ⟨o,e1,fun v z=>by rw [d] at z; cases z⟩
 keep:=fun i h h' st kk=>by
  obtain ⟨⟨old,he⟩,st⟩:=st;exact ⟨⟨old,kk e (by simp) _ he⟩,st.at fun o q=>kk it (by simp) o q⟩
 item:=by
  intro X hP hw hK hc i pins s σ H E I hf st hg;subst hP hw hK;obtain ⟨xs,x,hq,hx⟩:=hg;obtain ⟨its,rv,p,hz⟩:=I.list hq;obtain ⟨u,hu,ru⟩:=rv.get hx;have fe:=hf e (by simp);have fi:=hf it (by simp);obtain ⟨⟨old,he⟩,hit⟩:=st;refine wpAny_pyNext_enum_item he hit p.isList (x:=u) (by simpa using hu) hne fun h1 eo it1 tp sz kk=>?_;refine ⟨_,rfl,wpAny_letOwnedTupleGo_enum (s:={s with heap:=h1,toks:=s.toks + 1}) eo fun h2 e2 sb2=>?_⟩;have hfr:=I.hok.fresh (Nat.le_refl s.heap.objs.size);have I1:Inv X pins σ (upd H s.heap.objs.size (.tup [.int i,x])) {s with heap:=s.heap.push {cls:=.type "tuple",data:=.seq #[.int i s.toks,u]},toks:=s.toks}:=
   I.laid (o:=.tup [.int i,x]) (fun b o q=>Heap.get?_push_of_some _ q) (Nat.le_refl _) ⟨by show 2≤sizeLine; decide,[.int i s.toks,u],.cons ⟨_,rfl⟩ (.cons ru .nil),IsTup.new _ _⟩
  have lt1:e < s.heap.objs.size:=Heap.lt_size he;have lt2:it < s.heap.objs.size:=by obtain ⟨o,q,_⟩:=id hit; exact Heap.lt_size q
  have up:∀{b:Addr},cX X pins H b→b < s.heap.objs.size→cX X pins (upd H s.heap.objs.size (.tup [.int i,x])) b:=fun f l=>⟨by rw [am (Nat.ne_of_lt l)]; exact f.1,f.2⟩;have I2:=I1.turned2 (h':=h2) (t':=s.toks + 1) (fun b o n1 n2 q=>?_) (up fe lt1) (up fi lt2)
  ·refine ⟨.ref s.heap.objs.size,_,I2,rfl,⟨_,x,hfr,rfl,fun ys hy=>by rw [I.list_inj hy hq]; exact hx,rfl⟩,⟨⟨u,?_⟩,it1.extBut sb2.extBut (Ne.symm hne)⟩,fun b hb=>?_⟩
   ·have e3:((i + 1:Nat):Int)=(i:Int) + 1:=by push_cast; rfl
    rw [e3]; exact e2
   ·rcases List.mem_cons.mp hb with z | hb
    ·rw [z]; exact (up fe lt1).1
    ·have z:b=it:=by simpa using hb
     rw [z]; exact (up fi lt2).1
  ·have q1:(s.heap.push {cls:=.type "tuple",data:=.seq #[.int i s.toks,u]}).get? b=some o:=q;refine sb2.extBut b o n1 ?_
   by_cases hb:b=s.heap.objs.size
   ·subst hb;rw [Heap.get?_push_size _ rfl] at q1;cases q1;exact tp
   ·refine kk b o n1 n2 ?_;rw [← q1];exact (Heap.get?_push_ne s.heap b _ hb).symm
 done:=by
  intro X hP hw hK hc i pins s σ H E I hf st hg;subst hP hw hK;obtain ⟨xs,hq,hx⟩:=hg;obtain ⟨its,rv,p,hz⟩:=I.list hq;obtain ⟨⟨old,he⟩,hit⟩:=st;obtain ⟨f0,f1,f2,f3,f4,f5⟩:=hf it (by simp);have hl:=rv.length;exact wpAny_pyNext_enum_end (I.ok.hd hc) he hit p.isList (by simp; omega) fun h' eb=>⟨rfl,I.turned (t':=s.toks) (fun b o hb q=>eb b o hb q) f0 f1 f3 f4 f5⟩
 self:=fun _ _ _ _ _ st h=>by
  obtain ⟨⟨old,he⟩,_⟩:=st;exact wpAny_pyIter_enum he h
section
variable {X:Cx} {es:List Expr} {tk:Nat} {tpos:Pos}
def xW (K:PySem.W.Frag) (ta:TA):TI:=fun σ H R=>ta σ H fun vs H1=>∃a,vs=[.ref a]∧(∃xs,SqL K H1 a xs)∧R (Ite K a) H1
theorem wv {l:Expr} {ta:TA} {p pos:Pos} (hg:Gl X "enumerate") (hm:X.mg "enumerate" = none) (ha:PA X [l] ta) (hs:starEach [l] X.env=[(false,eval l X.env)]:=by rfl) :
  PI X (.Tuple es tk tpos) (.Call (.Name "enumerate" p) [l] [] pos) (xW X.K ta):=by
 intro pins s σ H R I h;refine Call_ (eO I hg hm PyProof.Rows.boot_enumerate (PyProof.Rows.callWith_type1 (thn (ha pos pins s σ H _ I h) fun us s1 ⟨vs,H1,I1,r1,q1⟩=>?_) hs rfl));obtain ⟨a,e,⟨xs,hq⟩,q⟩:=q1;subst e;cases r1 with
 | cons r rr=>
  cases rr;cases r;obtain ⟨its,rv,pl,hz⟩:=I1.list hq;refine call_enumerate_list pl.isList fun h' he hit hsz kk=>wpAny_pyIter_enum he ?_;refine ⟨_,[s1.heap.objs.size + 1,s1.heap.objs.size],_,_,H1,rfl,I1.kept (t':=s1.toks) kk,rY a _ _ (Nat.succ_ne_self _),⟨⟨_,he⟩,hit⟩,fun b hb=>?_,q⟩;rcases List.mem_cons.mp hb with z | hb
  ·rw [z]; exact I1.fpOk (Nat.le_succ _) (I1.hok.fresh (Nat.le_succ _))
  ·have z:b=s1.heap.objs.size:=by simpa using hb
   rw [z]; exact I1.fpOk (Nat.le_refl _) (I1.hok.fresh (Nat.le_refl _))
end
def big:Nat:=2 ^ 4000
theorem qH {n:Nat} (h:n < big):n.log2 < 4000:=by
 by_cases h0:n=0
 ·rw [h0]; decide +kernel
 ·exact (Nat.log2_lt h0).mpr h
section
variable {X:Cx}
theorem nW:OpR X (binaryOp .FloorDiv) (rI (fun _ j=>j≠0∧j.natAbs < big) fun i j=>.int (i.fdiv j)):=opI fun _ _ _ _ _ _ _ hc q=>floordiv_int hc.1 q (.inl (PyProof.noPylong_of_log2 (Nat.lt_trans (qH hc.2) (by decide))))
theorem uf:OpR X (binaryOp .FloorDiv) (rI (fun _ j=>0 < j∧j.natAbs < big) fun i j=>.int (i / j)):=opI fun i j _ _ _ _ _ hc q=>by
 have h1:(0:Int) < j:=hc.1;exact floordiv_int (by omega) (by rw [Int.fdiv_eq_ediv_of_nonneg i (by omega)]; exact q) (.inl (PyProof.noPylong_of_log2 (Nat.lt_trans (qH hc.2) (by decide))))
def iw:List V→List V→Bool
 | [],[]=>true
 | x :: xs,y :: ys=>eqV x y && iw xs ys
 | _,_=>false
end
def Ac (h:Heap) (e:Addr) (vs:Array Value):Prop:=
 vs[1]? = some .none∨∃T oT ts,vs[1]? = some (.ref T)∧T≠e∧h.get? T=some oT∧oT.data = .fields ts∧ts[3]? = some .none
structure Noted (fs:List Addr) (e L:Addr) (oe:Obj) (vs:Array Value) (h h':Heap) (T:Addr) (fl:Value):Prop where
 new:h.get? T=none
 ne:T≠e
 exc:h'.get? e=some (oe.mapFields (·.setIfInBounds 1 (.ref T)))
 tb:∃oT ts,h'.get? T=some oT∧oT.data = .fields ts∧ts[3]? = some fl
 keep:∀b o,b∉fs→b≠e→vs[1]?≠some (.ref b)→h.get? b=some o→h'.get? b=some o
 slot:∀b o,b∈fs→h.get? b=some o→∃sl,h'.get? b=some {o with slots:=sl}
section
variable {M:Model} {A:Around} {E:Value→Shared→Prop} {s:Shared} {env:Env} {outer:List Env} {base:Heap} {L e:Addr} {oe:Obj} {vs:Array Value} {Q:Unit→Shared→Prop}
theorem nX {head:Value} {had:Bool} (hfr:A.frames=some (env :: outer)) (hl:s.heap.FunFrames base (env :: outer)) (hf:env.frame=some L)
  (he:s.heap.get? e=some oe) (hd:oe.data = .fields vs) (hz:1 < vs.size)
  (h:∀h' T,s.heap.get? T=none→T≠e→h'.get? e=some (oe.mapFields (·.setIfInBounds 1 (.ref T)))→(∃oT ts,h'.get? T=some oT∧oT.data = .fields ts∧ts[3]? = some (rawInt L))→
   (∀b o,b∉frs (env :: outer)→b≠e→s.heap.get? b=some o→h'.get? b=some o)→(∀b o,b∈frs (env :: outer)→s.heap.get? b=some o→∃sl,h'.get? b=some {o with slots:=sl})→
   Q () {s with heap:=h'}) :
  wpAny M A (do let f ← frameOf env; let p ← entryPlaceOf L had; let n ← EntryCells.newEntry head f .none (rawInt L) .none p; setField (.ref e) 1 n) Q E s:=by
 have enf:e∉frs (env :: outer):=fun z=>by
  obtain ⟨_,o,ho,hn⟩:=hl.mem z;rw [he] at ho; cases ho;exact hn vs hd
 refine wpAny_bind (wpAny_frameOf_fun hfr hl hf fun g1 so=>?_);refine wpAny_bind (wpAny_entryPlaceOf fun pl hp=>?_);unfold EntryCells.newEntry newFields;refine wpAny_bind (wpAny_newObj_type ?_ (hp.sizeOk5 _ _ _ _ _));have e1:g1.get? e=some oe:=(so.2.1 e enf).trans he;generalize htb:({cls:=.type "traceback",dict:=none,data:=.fields ([head,.ref L,.none,rawInt L,.none] ++ (if pl.isEmpty then List.replicate 6 Value.none else pl)).toArray}:Obj)=tb;have dtb:∃ts,tb.data = .fields ts∧ts[3]? = some (rawInt L):=by
  subst htb;exact ⟨_,rfl,by simp⟩
 have ftb:tb.isFreed=false:=by subst htb; rfl
 have e2:(g1.push tb).get? e=some oe:=Heap.get?_push_of_some _ e1;have tne:g1.objs.size≠e:=Nat.ne_of_gt (Heap.lt_size e1);refine wpAny_setField e2 hd hz ?_;have d3:=Obj.data_mapFields hd (·.setIfInBounds 1 (Value.ref g1.objs.size));have keep:∀b o,b≠e→g1.get? b=some o→((g1.push tb).update e (Obj.mapFields (·.setIfInBounds 1 (Value.ref g1.objs.size)))).get? b=some o:=fun b o hb q=>by
  rw [Heap.get?_update_other _ _ (Ne.symm hb)];exact Heap.get?_push_of_some _ q
 refine h _ g1.objs.size (Heap.get?_none_of_le (Nat.le_of_eq so.1.symm)) tne (Heap.get?_update_self _ e2 (Obj.isFreed_of_fields d3)) ?_ (fun b o n1 n2 q=>keep b o n2 ((so.2.1 b n1).trans q)) (fun b o n1 q=>?_)
 ·obtain ⟨ts,q1,q2⟩:=dtb;refine ⟨tb,ts,?_,q1,q2⟩;rw [Heap.get?_update_other _ _ (Ne.symm tne)];exact Heap.get?_push_size g1 ftb
 ·obtain ⟨sl,q1⟩:=so.2.2 b o q;exact ⟨sl,keep b _ (fun z=>enf (z ▸ n1)) q1⟩
theorem qI (hfr:A.frames=some (env :: outer)) (hl:s.heap.FunFrames base (env :: outer)) (hf:env.frame=some L)
  (he:s.heap.get? e=some oe) (hd:oe.data = .fields vs) (hv:Ac s.heap e vs) (h:∀h' T,Noted (frs (env :: outer)) e L oe vs s.heap h' T (rawInt L)→Q () {s with heap:=h'}) :
  wpAny M A (noteFrame (.ref e) env) Q E s:=by
 unfold noteFrame;simp only [hf];rcases hv with h1 | ⟨T,oT,ts,h1,ne,hT,dT,h3⟩
 ·refine wpAny_bind (wpAny_field he hd h1 ?_);rw [if_neg (by decide)];exact nX hfr hl hf he hd (Array.getElem?_eq_some_iff.mp h1).1 fun h' T a b c d k sl=>h h' T ⟨a,b,c,d,fun b o n1 n2 _ q=>k b o n1 n2 q,sl⟩
 ·refine wpAny_bind (wpAny_field he hd h1 ?_);rw [if_pos (show (Value.ref T != Value.none)=true from by simp)];refine wpAny_bind (wpAny_field hT dT h3 ?_);rw [if_neg (show ¬((Value.none == rawInt L)=true) from by simp [rawInt])];refine wpAny_bind (wpAny_setField hT dT (Array.getElem?_eq_some_iff.mp h3).1 ?_);have oth:∀b,b≠T→(s.heap.update T (Obj.mapFields (·.setIfInBounds 3 Value.none))).get? b=s.heap.get? b:=fun b hb=>Heap.get?_update_other _ _ (Ne.symm hb);have nf:∀b o,s.heap.get? b=some o→(∀vs,o.data≠.fields vs)→b≠T:=fun b o q hn z=>by
   rw [z,hT] at q; cases q;exact hn ts dT
  have hl2:=hl.of_keeps (h':=s.heap.update T (Obj.mapFields (·.setIfInBounds 3 Value.none))) fun b o q hn=>⟨o,(oth b (nf b o q hn)).trans q,rfl⟩;refine nX (s:={s with heap:=s.heap.update T (Obj.mapFields (·.setIfInBounds 3 Value.none))}) hfr hl2 hf ((oth e (Ne.symm ne)).trans he) hd (Array.getElem?_eq_some_iff.mp h1).1 fun h' T' a b c d k sl=>?_;have nT:T'≠T:=fun z=>by
   have a':(s.heap.update T (Obj.mapFields (·.setIfInBounds 3 Value.none))).get? T'=none:=a;rw [z,Heap.get?_update_self _ hT (Obj.isFreed_of_fields (Obj.data_mapFields dT _))] at a';cases a'
  refine h h' T' ⟨(oth T' nT).symm.trans a,b,c,d,fun b o n1 n2 n3 q=>k b o n1 n2 ((oth b fun z=>n3 (by rw [z]; exact h1)).trans q),fun b o n1 q=>?_⟩;refine sl b o n1 ((oth b fun z=>?_).trans q);obtain ⟨_,o',ho,hn⟩:=hl.mem n1;exact nf b o' ho hn z
theorem mx {fs:List Addr} {h0:Heap} {T:Addr} {fl:Value} (N:Noted fs e L oe vs h0 s.heap T fl) (hd:oe.data = .fields vs) (hz:1 < vs.size) (hT:T∉fs)
  (h:∀h',Noted fs e L oe vs h0 h' T .none→Q () {s with heap:=h'}):wpAny M A (setFlight (.ref e) none) Q E s:=by
 obtain ⟨oT,ts,q1,q2,q3⟩:=N.tb;have h3:3 < ts.size:=(Array.getElem?_eq_some_iff.mp q3).1;refine wpAny_setFlight_none N.exc (Obj.data_mapFields hd _) (by simp [hz]) q1 q2 h3 (h _ ?_);have oth:∀b,b≠T→(s.heap.update T (Obj.mapFields (·.setIfInBounds 3 Value.none))).get? b=s.heap.get? b:=fun b hb=>Heap.get?_update_other _ _ (Ne.symm hb);have old:∀b o,h0.get? b=some o→b≠T:=fun b o q z=>by rw [z,N.new] at q; cases q
 refine ⟨N.new,N.ne,(oth e (Ne.symm N.ne)).trans N.exc,⟨_,_,Heap.get?_update_self _ q1 (Obj.isFreed_of_fields (Obj.data_mapFields q2 _)),Obj.data_mapFields q2 _,by simp [h3]⟩,
  fun b o n1 n2 n3 q=>(oth b (old b o q)).trans (N.keep b o n1 n2 n3 q),fun b o n1 q=>?_⟩
 obtain ⟨sl,q4⟩:=N.slot b o n1 q;exact ⟨sl,(oth b (old b o q)).trans q4⟩
theorem nY (hfr:A.frames=some (env :: outer)) (hl:s.heap.FunFrames base (env :: outer)) (hf:env.frame=some L)
  (he:s.heap.get? e=some oe) (hd:oe.data = .fields vs) (hv:Ac s.heap e vs) (h:∀h' T,Noted (frs (env :: outer)) e L oe vs s.heap h' T .none→Q () {s with heap:=h'}) :
  wpAny M A (leaving env (.ref e)) Q E s:=by
 unfold leaving;have hz:1 < vs.size:=by
  rcases hv with h1 | ⟨T,oT,ts,h1,_⟩
  ·exact (Array.getElem?_eq_some_iff.mp h1).1
  ·exact (Array.getElem?_eq_some_iff.mp h1).1
 refine wpAny_bind (qI hfr hl hf he hd hv fun h1 T N=>?_);refine mx (s:={s with heap:=h1}) N hd hz (fun z=>?_) fun h' N'=>h h' T N';obtain ⟨_,o,ho,_⟩:=hl.mem z;rw [N.new] at ho; cases ho
end
theorem ObjOk.there {P:Program} {w:World} {H:Hp} {h:Heap} {a:Addr} {o:HO} (x:ObjOk P w H h a o):∃ob,h.get? a=some ob:=by
 cases o with
 | lst xs=>obtain ⟨_,_,_,_,e⟩:=x; exact ⟨_,e⟩
 | tup xs=>obtain ⟨_,_,_,o,e,_⟩:=x; exact ⟨_,e⟩
 | dK kvs=>obtain ⟨_,_,_,_,o,_,_,e,_⟩:=x; exact ⟨_,e⟩
 | dT kvs=>obtain ⟨_,_,_,_,o,_,_,e,_⟩:=x; exact ⟨_,e⟩
 | set S n=>obtain ⟨o,_,_,_,e,_⟩:=x; exact ⟨_,e⟩
 | ins C dx fs=>obtain ⟨_,_,_,e,_⟩:=x; exact ⟨_,e⟩
 | own y=>exact x
 | xd fs=>obtain ⟨_,⟨_,_,_,e,_⟩,_⟩:=x; exact ⟨_,e⟩
 | rng lo hi=>obtain ⟨_,_,_,e⟩:=x; exact ⟨_,e⟩
 | frz ob u=>obtain ⟨e,_⟩:=x; exact ⟨_,e⟩
 | tbl ps=>exact ⟨_,(show h.get? a=some _ from x)⟩
 | met f y=>exact ⟨_,(show h.get? a=some _ from x)⟩
 | ext φ=>obtain ⟨_,e,_⟩:=x; exact e
theorem HOk.none_of {P:Program} {w:World} {H:Hp} {h:Heap} {a:Addr} (x:HOk P w H h) (e:h.get? a=none):H a=none:=by
 cases q:H a with
 | none=>rfl
 | some o=>
  obtain ⟨ob,z⟩:=(x a o q).there;rw [e] at z; cases z
theorem HOk.keepT {P:Program} {w:World} {H:Hp} {h h':Heap} (x:HOk P w H h) (k:∀b o u,H b=some u→h.get? b=some o→h'.get? b=some o):HOk P w H h':=fun a o e=>
 (x a o e).stay (fun b u hb q=>by
  rcases hb with z | z
  ·rw [z] at q ⊢; exact k a u o e q
  ·exact k b u _ z q) (fun _ q=>q) fun _ _ q=>q
theorem Un.post {fs:List Addr} {H H':Hp} {h h1 h2:Heap} (u:Un fs [] H H' h h1) (k:∀b o p,h.get? b=some p→b∉fs→H' b=none→h1.get? b=some o→h2.get? b=some o)
  (sl:∀b o,b∈fs→h1.get? b=some o→∃sl,h2.get? b=some {o with slots:=sl}) (th:∀b o p,h.get? b=some p→h1.get? b=some o→∃o',h2.get? b=some o'):Un fs [] H H' h h2 where
 keep:=fun b o q n hb hx=>k b o o q hb (u.free b o q n hx) (u.keep b o q n hb hx)
 slot:=fun b o q n hb hx=>by
  obtain ⟨s1,e1⟩:=u.slot b o q n hb hx;obtain ⟨s2,e2⟩:=sl b _ hb e1;exact ⟨s2,e2⟩
 free:=u.free
 there:=fun b o q hx=>by
  obtain ⟨o1,e1⟩:=u.there b o q hx;exact th b o1 o q e1
 tups:=u.tups
 frzs:=u.frzs
 tbls:=u.tbls
theorem Un.less {fs fs':List Addr} {H H':Hp} {h h1:Heap} (u:Un fs' [] H H' h h1) (hs:∀b∈fs,b∈fs') (hn:∀b∈fs',b∉fs→h.get? b=none):Un fs [] H H' h h1 where
 keep:=fun b o q n hb hx=>u.keep b o q n (fun z=>by rw [hn b z hb] at q; cases q) hx
 slot:=fun b o q n hb hx=>u.slot b o q n (hs b hb) hx
 free:=u.free
 there:=u.there
 tups:=u.tups
 frzs:=u.frzs
 tbls:=u.tbls
def ww (h:Heap) (e:Addr):Option Addr:=(h.get? e).bind fun o=>o.dict
theorem jA {h:Heap} {e:Addr} {o:Obj} (q:h.get? e=some o):ww h e=o.dict:=by unfold ww; rw [q]; rfl
structure Thrown (h0 h:Heap) (e C T:Addr):Prop where
 n0:h0.get? e=none
 t0:h0.get? T=none
 ne:T≠e
 ob:∃oe vs,h.get? e=some oe∧oe.cls = .ref C∧oe.data = .fields vs∧vs[1]? = some (.ref T)
 tb:∃oT ts,h.get? T=some oT∧oT.data = .fields ts∧ts[3]? = some .none
def CXE (P:Program) (w:World):CXT:=fun outer H s E ev s'=>∃e C T H',ev = .ref e∧s'.os=s.os∧AllBare s'.gens∧Un (frs outer) [] H H' s.heap s'.heap∧HOk P w H' s'.heap∧H' e=none∧H' T=none∧
 Thrown s.heap s'.heap e C T∧E (.ref C) (ww s'.heap e) H'
theorem aw {X:Cx} {P:Program} {w:World}:jN (CXE P w) X E0:=fun _ _ _ _ _ _ _ h=>by
 obtain ⟨_,_,_,_,_,_,_,_,_,_,_,_,z⟩:=h;exact z.elim
theorem jP (o:Obj) (f:Array Value→Array Value):(o.mapFields f).dict=o.dict:=by
 obtain ⟨c,d,dt,sl⟩:=o;cases dt <;> rfl
section
variable {P:Program} {w:World} {K:PySem.W.Frag} {mg:Str→Option Value} {base:Heap} {N:List Str} {qual:Str} {scope:Scope} {f:Addr} {cd:Value} {A:Around} {outer:List Env} {s:Shared} {H:Hp} {E:XK}
theorem lB {X:Cx} {pins:List (Addr × Obj)} {σ:St} {H1:Hp} {s1:Shared} (I:Inv X pins σ H1 s1) (he:X.ex=[]) {H2:Hp} {h2:Heap} (u:Un (frs X.stack) [] H1 H2 s1.heap h2):Un X.fs [] X.H₀ H2 X.s₀.heap h2:=by
 have b0:=I.base;rw [he] at b0;have sub:∀b∈X.fs,b∈frs X.stack:=fun b hb=>by
  rcases I.ok.stk with e | ⟨e,hf⟩
  ·rw [e]; exact hb
  ·rw [e]; unfold frs; rw [List.filterMap_cons,hf]; exact List.mem_cons_of_mem _ hb
 refine Un.less ((b0.mono sub fun b z=>z).trans u) sub fun b z nb=>?_;rcases List.mem_cons.mp (I.stkSub b z) with e | z2
 ·rw [e]; exact Heap.get?_none_of_le I.ok.above
 ·exact absurd z2 nb
theorem rZ {pins:List (Addr × Obj)} {σ:St} {H1 H2:Hp} {s1 s2:Shared} {e C:Addr} {oe:Obj} {vs:Array Value} (I:Inv (eV (CXE P w) P w K mg base N qual scope f cd A outer s H E) pins σ H1 s1)
  (os:s2.os=s1.os) (bare:AllBare s2.gens) (un:Un (frs (eV (CXE P w) P w K mg base N qual scope f cd A outer s H E).stack) [] H1 H2 s1.heap s2.heap) (hok:HOk P w H2 s2.heap) (he:H2 e=none) (n0:s1.heap.get? e=none)
  (q1:s2.heap.get? e=some oe) (q2:oe.cls = .ref C) (q4:oe.data = .fields vs) (q5:vs[1]? = some .none) (hE:E (.ref C) oe.dict H2):(eV (CXE P w) P w K mg base N qual scope f cd A outer s H E).xe (.ref e) s2:=by
 have I2:=I.call' os un hok bare (fun _ z=>nomatch z);refine nY I2.ok.frames I2.stack rfl q1 q4 (.inl q5) fun h' T Nt=>?_;have ne1:∀b o,s1.heap.get? b=some o→b≠e:=fun b o q z=>by rw [z,n0] at q; cases q
 have ne2:∀b:Addr,vs[1]?≠some (.ref b):=fun b z=>by rw [q5] at z; cases z
 have u:Un (frs (eV (CXE P w) P w K mg base N qual scope f cd A outer s H E).stack) [] H1 H2 s1.heap h':=
  un.post (fun b o p q n _ r=>Nt.keep b o n (ne1 b p q) (ne2 b) r) (fun b o n r=>Nt.slot b o n r) (fun b o p q r=>by
   by_cases hb:b∈frs (eV (CXE P w) P w K mg base N qual scope f cd A outer s H E).stack
   ·obtain ⟨sl,z⟩:=Nt.slot b o hb r;exact ⟨_,z⟩
   ·exact ⟨o,Nt.keep b o hb (ne1 b p q) (ne2 b) r⟩)
 have hok2:HOk P w H2 h':=HOk.keepT hok fun b o u q r=>Nt.keep b o (fun z=>by rw [I2.stkFree b z] at q; cases q) (fun z=>by rw [z,he] at q; cases q) (ne2 b) r;have base0:∀{b:Addr},s1.heap.get? b=none→s.heap.get? b=none:=fun {b} q=>by
  cases z:s.heap.get? b with
  | none=>rfl
  | some o=>
   obtain ⟨o',r⟩:=I.base.there b o z (by intro y; exact absurd (show b∈([]:List Addr) from y) (by simp));rw [q] at r; cases r
 have t1:s1.heap.get? T=none:=by
  cases z:s1.heap.get? T with
  | none=>rfl
  | some o=>
   obtain ⟨o',r⟩:=un.there T o z (by simp);rw [Nt.new] at r; cases r
 refine ⟨e,C,T,H2,rfl,I2.os,bare,lB I rfl u,hok2,he,hok.none_of Nt.new,⟨base0 n0,base0 t1,Nt.ne,⟨_,_,Nt.exc,(Obj.cls_mapFields _ _).trans q2,Obj.data_mapFields q4 _,?_⟩,Nt.tb⟩,?_⟩
 ·have z:=(Array.getElem?_eq_some_iff.mp q5).1;simp [z]
 ·rw [jA Nt.exc,jP];exact hE
theorem eX {pins:List (Addr × Obj)} {σ:St} {H1:Hp} {s1:Shared} {h1:Heap} {e C:Addr} {args:List Value} (I:Inv (eV (CXE P w) P w K mg base N qual scope f cd A outer s H E) pins σ H1 s1)
  (hx:Heap.MadeExcOf s1.heap h1 e (.ref C) args) (hE:E (.ref C) none H1):(eV (CXE P w) P w K mg base N qual scope f cd A outer s H E).xe (.ref e) {s1 with heap:=h1}:=by
 obtain ⟨t,e1,_⟩:=hx.there;have I1:=I.kept (h':=h1) (t':=s1.toks) hx.keeps;exact rZ (s2:={s1 with heap:=h1}) I rfl I.bare (Un.kept (h:=s1.heap) (h':=h1) hx.keeps) I1.hok (I.hok.none_of hx.new) hx.new e1 rfl rfl rfl hE
theorem gS {E':XK} (hE:∀c d H,E' c d H→E c d H):jN (CXE P w) (eV (CXE P w) P w K mg base N qual scope f cd A outer s H E) E':=by
 intro pins σ H1 s1 ev s2 I h;obtain ⟨e,C,T,H2,rfl,os,bare,un,hok,he,hT,⟨n0,t0,ne,⟨oe,vs,q1,q2,q4,q5⟩,⟨oT,ts,r1,r2,r3⟩⟩,hw⟩:=h;have I2:=I.call' os un hok bare (fun _ z=>nomatch z);refine nY I2.ok.frames I2.stack rfl q1 q4 (.inr ⟨T,oT,ts,q5,ne,r1,r2,r3⟩) fun h' T' Nt=>?_;have ne1:∀b o,s1.heap.get? b=some o→b≠e:=fun b o q z=>by rw [z,n0] at q; cases q
 have ne2:∀b o,s1.heap.get? b=some o→vs[1]?≠some (.ref b):=fun b o q z=>by rw [q5] at z; cases z; rw [t0] at q; cases q
 have u:Un (frs (eV (CXE P w) P w K mg base N qual scope f cd A outer s H E).stack) [] H1 H2 s1.heap h':=
  un.post (fun b o p q n _ r=>Nt.keep b o n (ne1 b p q) (ne2 b p q) r) (fun b o n r=>Nt.slot b o n r) (fun b o p q r=>by
   by_cases hb:b∈frs (eV (CXE P w) P w K mg base N qual scope f cd A outer s H E).stack
   ·obtain ⟨sl,z⟩:=Nt.slot b o hb r;exact ⟨_,z⟩
   ·exact ⟨o,Nt.keep b o hb (ne1 b p q) (ne2 b p q) r⟩)
 have hok2:HOk P w H2 h':=HOk.keepT hok fun b o u q r=>Nt.keep b o (fun z=>by rw [I2.stkFree b z] at q; cases q) (fun z=>by rw [z,he] at q; cases q) (fun z=>by rw [q5] at z; cases z; rw [hT] at q; cases q) r;have base0:∀{b:Addr},s1.heap.get? b=none→s.heap.get? b=none:=fun {b} q=>by
  cases z:s.heap.get? b with
  | none=>rfl
  | some o=>
   obtain ⟨o',r⟩:=I.base.there b o z (by intro y; exact absurd (show b∈([]:List Addr) from y) (by simp));rw [q] at r; cases r
 have t1:s1.heap.get? T'=none:=by
  cases z:s1.heap.get? T' with
  | none=>rfl
  | some o=>
   obtain ⟨o',r⟩:=un.there T' o z (by simp);rw [Nt.new] at r; cases r
 refine ⟨e,C,T',H2,rfl,I2.os,bare,lB I rfl u,hok2,he,hok.none_of Nt.new,⟨base0 n0,base0 t1,Nt.ne,⟨_,_,Nt.exc,(Obj.cls_mapFields _ _).trans q2,Obj.data_mapFields q4 _,?_⟩,Nt.tb⟩,?_⟩
 ·have z:=(Array.getElem?_eq_some_iff.mp q5).1;simp [z]
 ·rw [jA Nt.exc,jP];rw [jA q1] at hw;exact hE _ _ _ hw
end
abbrev bmV:List Value:=[.type "ValueError",.type "Exception",.type "BaseException",.type "object"]
abbrev my (K:PySem.W.Frag) (C:Addr):Prop:=PySem.W.excIn K C bmV "ValueError.__new__" = true
theorem wx {K:PySem.W.Frag} {h:Heap} {C:Addr} (X:K.In h) (q:my K C):∃bm N nm qn bs hd sn sub ab col dd k0 k1 k2 k3 k5 mN,
  h.get? C=some (excClassObj nm qn C N bs bm hd sn sub ab col dd k0 k1 k2 k3 k5 "ValueError.__new__")∧h.Ns N mN∧mN "__init__" = none∧OwnTail h bmV bm:=by
 have q:PySem.W.excIn K C bmV "ValueError.__new__" = true:=q;unfold PySem.W.excIn at q
 split at q
 ·rename_i dd cd sl lk
  split at q
  ·rename_i C1 bm a0 a1 a2 a3 n a5 em es
   simp only [Bool.and_eq_true,beq_iff_eq,Bool.not_eq_true'] at q;obtain ⟨⟨⟨⟨⟨c1,c2⟩,c3⟩,c4⟩,c5⟩,c6⟩:=q;subst c1 c2;have ob:=X _ _ lk;obtain ⟨l⟩:=sl;obtain ⟨nm,bs,mro,ns,qn,hd,sn,sub,ab,col,del⟩:=cd;simp only at em es c3 c5 c6;subst em es c3;exact ⟨bm,ns,nm,qn,bs,hd,sn,sub,ab,col,dd,a0,a1,a2,a3,a5,_,ob,.of_isNs (PySem.W.isNs_of_in X c5),PySem.W.nsMap_none_of_in X c5 c6,PySem.W.tail_of_in X c4⟩
  ·cases q
 ·cases q
def ug (C:Addr) (E:XK) (t:TA):TS:=fun _ σ H=>t σ H fun vs H1=>vs.length≤sizeLine∧E (.ref C) none H1
theorem uh {X:Cx} {x:Str} {C:Addr} {e0:Expr} {es:List Expr} {t:TA} {E:XK} {np cpos pos:Pos}
  (hth:∀(pins:List (Addr × Obj)) (σ:St) (H:Hp) (s:Shared) (h1:Heap) (e:Addr) (args:List Value),Inv X pins σ H s→Heap.MadeExcOf s.heap h1 e (.ref C) args→E (.ref C) none H→X.xe (.ref e) {s with heap:=h1})
  (hc:X.calm=true) (hg:Gl X x) (hm:X.mg x=some (.ref C)) (q:my X.K C) (ha:PA X (e0 :: es) t) (hd:(x == ("__debug__" : Str))=false:=by decide)
  (he:starEach (e0 :: es) X.env=(false,eval e0 X.env) :: starEach es X.env:=by rfl) (hp:(backTo cpos (starEach es X.env)).any (·.1)=false:=by rfl) :
  PS X (.Raise (some (.Call (.Name x np) (e0 :: es) [] cpos)) none pos) (ug C E t):=by
 intro pins s σ H D I h;obtain ⟨bm,N,nm,qn,bs,hdt,sn,sub,ab,col,dd,k0,k1,k2,k3,k5,mN,hC,hN,hni,T⟩:=wx I.mod.kin q;refine wpAny_Raise_call_subT (C:=C) (nm:=nm) (q:=qn) (N:=N) (bs:=bs) (bm:=bm) (hdct:=hdt) (sn:=sn) (sub:=sub) (ab:=ab) (col:=col) (dd:=dd) (k0:=k0) (k1:=k1) (k2:=k2) (k3:=k3) (k5:=k5)
  PySem.F.excBase_ValueError (mN:=mN) (T.hasType PySem.F.excBase_ValueError.hasBase) (I.ok.hd hc) (by rw [he]; show (false || (backTo cpos (starEach es X.env)).any (·.1))=false; rw [hp]; rfl) hni (iE I hg hm ⟨rfl,?_⟩ hd)
 have hb:=ha cpos pins s σ H _ I h;rw [he] at hb ⊢;exact Calls.evalArgs_plain (thn hb fun us s1 ⟨vs,H1,I1,r1,z1,z2⟩=>⟨rfl,(by show us.length≤sizeLine; rw [← r1.length]; exact z1),I1.bk _ _ hC,hN.keeps I1.bk,T.keeps I1.bk,fun h' e hx=>hth pins σ H1 s1 h' e us I1 hx z2⟩)
section
variable {P:Program} {w:World} {K:PySem.W.Frag} {mg:Str→Option Value} {base:Heap}
end
def CXX (X:Cx) (pins:List (Addr × Obj)) (σ:St) (E:XK) (ev:Value) (s':Shared):Prop:=∃H s,Inv X pins σ H s∧CXE X.prog X.w X.stack H s E ev s'
abbrev TEX:=St→Hp→VK→XK→Prop
def PEX (X:Cx) (e:Expr) (t:TEX):Prop:=
 ∀(pins:List (Addr × Obj)) (s:Shared) (σ:St) (H:Hp) (Q:VK) (E:XK),Inv X pins σ H s→t σ H Q E→wpAny (model X.prog X.w) X.A (eval e X.env) (EP X pins σ Q) (CXX X pins σ E) s
abbrev TSX:=Ends→XK→St→Hp→Prop
def PSX (X:Cx) (st:List Stmt) (t:TSX):Prop:=
 ∀(pins:List (Addr × Obj)) (s:Shared) (σ:St) (H:Hp) (D:Ends) (E:XK),Inv X pins σ H s→t D E σ H→wpAny (model X.prog X.w) X.A (execs st X.env) (SP X pins D) (CXX X pins σ E) s
section
variable {X:Cx} {k:Nat} {f:Addr} {fd:FuncData} {ps:List Str} {sp:Sp} {dvs:List V} {ds:List Value} {x:Str} {p pos:Pos} {e:Expr} {es:List Expr} {t:TA}
def ui (sp:Sp) (dvs:List V) (t:TA):TEX:=fun σ H Q E=>t σ H fun vs H1=>sp (vs ++ dvs) H1 Q E
theorem uj (F:FnOk X.prog X.w X.K X.mg X.base (CXE X.prog X.w) k f fd ps sp) (hr:Room k X.A) (hg:Gl X x) (hm:X.mg x=some (.ref f)) (hk:PySem.W.keepIn X.K (.ref f)=true) (hb:Binds X.K fd ps ds) (hd:Vals dvs ds)
  (ha:PA X.nox (e :: es) t) (hdb:(x == ("__debug__" : Str))=false:=by decide) (he:starEach (e :: es) X.env=(false,eval e X.env) :: starEach es X.env:=by rfl) (hpl:(backTo pos (starEach es X.env)).any (·.1)=false:=by rfl) :
  PEX X (.Call (.Name x p) (e :: es) [] pos) (ui sp dvs t):=by
 intro pins s σ H Q E I h;refine wpAny_Call_Name_kw (iE I hg hm ?_ hdb);refine PySem.W.callWith_K (h₀:=X.base) I.ok.mod.kin hk (wpAny_mono (ha pos pins s σ H _ (I.wish _) h) (fun us s1 ⟨vs,H1,I1,r,q⟩=>⟨I1.unwish.kIn,?_⟩) fun _ _ z=>False.elim z) he hpl;have I1':=I1.unwish;have r2:Vals (vs ++ dvs) (us ++ ds):=r.append hd;have hl:(us ++ ds).length=ps.length:=by rw [← r2.length]; exact F.len _ _ _ _ q
 refine wpAny_call (codeAny_mono (F.run X.A X.stack s1 H1 ⟨us,[]⟩ (us ++ ds) (vs ++ dvs) Q E hr I1'.env0 (hb s1 us I1'.kIn hl) r2 q) fun r s' hq=>?_);cases r with
 | error ev=>exact ⟨H1,s1,I1',hq⟩
 | ok fl=>
  cases fl with
  | ret u=>exact I1'.after hq
  | next=>exact False.elim hq
  | brk=>exact False.elim hq
  | cont=>exact False.elim hq
theorem wz {i:Nat} {y:Str} {te:TEX} {py:Pos} (hN:X.N.Nodup) (hi:X.N[i]? = some y) (hx:Loc X.env.scope y) (he:PEX X e te) (hs:swapsWith e (some (.Name y py)) pos.line X.env=pure false:=by rfl)
  (hf:X.fn y=true∨X.env.scope.names.lookup y=some .local:=by first | exact .inl rfl | exact .inr rfl | assumption) :
  PSX X [.Assign [.Name y py] e pos] (fun D E σ H=>te σ H (fun v H1=>D.nx (σ.set i (some v)) H1) E):=by
 intro pins s σ H D E I h;refine wpAny_execs_cons (wpAny_Assign_Name (wpAny_mono (he pins s σ H _ E I h) (fun u s1 ⟨v,H1,I1,r1,q1⟩=>?_) fun _ _ z=>z) hs);exact eU I1 hN hi hx r1 (fun s2 I2=>wpAny_execs_nil ⟨_,H1,I2,q1⟩) hf
end
def jQ (C e:Addr) (d:Option Addr) (h:Heap):Prop:=∃o,h.get? e=some o∧o.cls = .ref C∧o.dict=d∧PySem.W.notCls o=true
abbrev Ad (C e:Addr) (h:Heap):Prop:=jQ C e none h
def jR (C e:Addr) (d:Option Addr):HO:=.ext (jQ C e d)
abbrev yQ (C e:Addr):HO:=jR C e none
theorem wC {P:Program} {w:World} {H:Hp} {h:Heap} {C e:Addr} {d:Option Addr} (x:jQ C e d h):ObjOk P w H h e (jR C e d):=by
 obtain ⟨o,q⟩:=id x;exact ⟨x,⟨o,q.1⟩,fun h1 h2 ⟨o,a,b⟩ k=>⟨o,k o a,b⟩⟩
theorem jS {X:Cx} {pins:List (Addr × Obj)} {σ:St} {H H':Hp} {s s':Shared} {e C T L T':Addr} {oe:Obj} {vs:Array Value} {h3:Heap} {d:Option Addr} (I:Inv X pins σ H s) (os:s'.os=s.os) (bare:AllBare s'.gens)
    (un:Un (frs X.stack) [] H H' s.heap s'.heap) (hok:HOk X.prog X.w H' s'.heap) (he:H' e=none) (hT:H' T=none) (n0:s.heap.get? e=none) (t0:s.heap.get? T=none) (q5:vs[1]? = some (.ref T))
    (c1:oe.cls = .ref C) (c2:oe.dict=d) (c3:oe.data = .fields vs) (Nt:Noted (frs X.stack) e L oe vs s'.heap h3 T' .none):Inv X pins σ (upd H' e (jR C e d)) {s' with heap:=h3}:=by
  have I2:=I.call' os un hok bare (fun _ z=>nomatch z);have ne1:∀b o,s.heap.get? b=some o→b≠e:=fun b o q z=>by rw [z,n0] at q; cases q
  have ne2:∀b o,s.heap.get? b=some o→vs[1]?≠some (.ref b):=fun b o q z=>by rw [q5] at z; cases z; rw [t0] at q; cases q
  have u:Un (frs X.stack) [] H H' s.heap h3:=
    un.post (fun b o p q n _ r=>Nt.keep b o n (ne1 b p q) (ne2 b p q) r) (fun b o n r=>Nt.slot b o n r) (fun b o p q r=>by
      by_cases hb:b∈frs X.stack
      · obtain ⟨sl,z⟩:=Nt.slot b o hb r
        exact ⟨_,z⟩
      · exact ⟨o,Nt.keep b o hb (ne1 b p q) (ne2 b p q) r⟩)
  have hok2:HOk X.prog X.w H' h3:=HOk.keepT hok fun b o u q r=>Nt.keep b o (fun z=>by rw [I2.stkFree b z] at q; cases q) (fun z=>by rw [z,he] at q; cases q) (fun z=>by rw [q5] at z; cases z; rw [hT] at q; cases q) r;have ne3:∀b u,H' b=some u→b≠e:=fun b u q z=>by rw [z,he] at q; cases q
  have u2:Un (frs X.stack) [] H (upd H' e (jR C e d)) s.heap h3:=
    ⟨u.keep,u.slot,fun b o q n hx=>by rw [am (ne1 b o q)]; exact u.free b o q n hx,u.there,fun b xs q=>by rw [am (ne3 b _ (u.tups b xs q))]; exact u.tups b xs q,
     fun b o xs q=>by rw [am (ne3 b _ (u.frzs b o xs q))]; exact u.frzs b o xs q,fun b p q=>by
      obtain ⟨m,z⟩:=u.tbls b p q;exact ⟨m,by rw [am (ne3 b _ z)]; exact z⟩⟩
  have ex:jQ C e d h3:=⟨_,Nt.exc,(Obj.cls_mapFields _ _).trans c1,(jP _ _).trans c2,by
    unfold PySem.W.notCls;rw [Obj.data_mapFields c3]⟩
  have hok3:HOk X.prog X.w (upd H' e (jR C e d)) h3:=fun b o q=>by
    by_cases hb:b=e
    · subst hb
      rw [ai] at q; cases q;exact wC ex
    · rw [am hb] at q
      exact (hok2 b o q).stay (fun _ _ _ r=>r) (fun c r=>by rw [am (ne3 c _ r)]; exact r) fun c xs r=>by rw [am (ne3 c _ r)]; exact r
  exact I.call' (s':={s' with heap:=h3}) os u2 hok3 bare (fun _ z=>nomatch z)
structure CatchK (K:PySem.W.Frag) (D:Addr):Prop where
 tup:PySem.W.instIn K (.ref D) (.type "tuple")=some false
 cls:(PySem.W.clsIn K D).isSome=true
 exc:PySem.W.mroIn K D (.type "BaseException")=some true
theorem fq {K:PySem.W.Frag} {M:Model} {h:Heap} {D:Addr} (X:K.In h) (c:(PySem.W.clsIn K D).isSome=true):PySem.W.Looks M h (isType (.ref D)) true:=by
 unfold PySem.W.clsIn at c
 split at c
 ·rename_i a b cd sl lk
  intro A Q E s k q;unfold isType loadHead;exact wpAny_bind (wpAny_loadPart (k _ _ (X _ _ lk)) (wpAny_pure q))
 ·cases c
theorem pM {K:PySem.W.Frag} {M:Model} {A:Around} {E:Value→Shared→Prop} {s:Shared} {e C D:Addr} {o:Obj} {Q:Bool→Shared→Prop} (X:K.In s.heap) (c:CatchK K D) (sub:PySem.W.mroIn K C (.ref D)=some true)
  (he:s.heap.get? e=some o) (hc:o.cls = .ref C) (h:Q true s):wpAny M A (excMatches (.ref e) (.ref D)) Q E s:=by
 have l1:=PySem.W.looks_instIn (M:=M) X c.tup;have l2:=fq (M:=M) X c.cls;have l3:=PySem.W.looks_mroIn (M:=M) X c.exc;have l4:=PySem.W.looks_mroIn (M:=M) X sub;obtain ⟨hh,g,d,t,os⟩:=s;unfold excMatches;refine wpAny_bind (l1.at ?_);simp only [Bool.false_eq_true,if_false,pure_bind,List.forIn_cons,List.forIn_nil];refine wpAny_bind (wpAny_bind (wpAny_bind ?_));unfold isExcClass;refine wpAny_bind (l2.at ?_);rw [if_pos rfl];refine l3.at ?_;simp only [Bool.not_true,Bool.false_eq_true,if_false];refine wpAny_pure (wpAny_pure ?_);refine wpAny_bind (wpAny_typeOf_ref he ?_);rw [hc];refine wpAny_bind (wpAny_bind (wpAny_bind (l4.at ?_)));rw [if_pos rfl];exact wpAny_pure (wpAny_pure (wpAny_pure h))
theorem Inv.relocal {X:Cx} {pins:List (Addr × Obj)} {σ σ':St} {H:Hp} {s:Shared} {h':Heap} {m':Str→Option Value} {tk:Nat} (I:Inv X pins σ H s) (hs:Heap.SameBut X.env.locals s.heap h') (hn:h'.Ns X.env.locals m')
  (hl:∀(i:Nat) (x:Str) (v:V),X.N[i]? = some x→σ'[i]? = some (some v)→Vis X.env.scope x→∃u,RelV v u∧Look X.env h' m' x u) (len:σ'.length=σ.length):Inv X pins σ' H {s with heap:=h',toks:=tk}:=by
 have neL:∀b o,X.s₀.heap.get? b=some o→b≠X.env.locals:=fun b o e=>Nat.ne_of_lt (Nat.lt_of_lt_of_le (Heap.lt_size e) I.ok.above);refine ⟨I.ok,I.os,I.bare,⟨fun b o e n hb hx=>(hs.2 b (neL b o e)).trans (I.base.keep b o e n hb hx),fun b o e n hb hx=>?_,I.base.free,fun b o e hx=>?_,I.base.tups,I.base.frzs,I.base.tbls⟩,⟨m',hn,hl⟩,fun y c e=>?_,I.free,I.freeC,fun p hp=>?_,?_,len.trans I.len⟩
 ·obtain ⟨sl,z⟩:=I.base.slot b o e n hb hx;exact ⟨sl,(hs.2 b (neL b o e)).trans z⟩
 ·obtain ⟨o',z⟩:=I.base.there b o e hx;exact ⟨o',(hs.2 b (neL b o e)).trans z⟩
 ·obtain ⟨w',z⟩:=I.cell y c e;exact ⟨w',z.sameBut hs (I.cne y c e)⟩
 ·obtain ⟨a,b,c,d,f⟩:=I.pin p hp;exact ⟨(hs.2 p.1 c).trans a,b,c,d,f⟩
 ·exact HOk.keepT I.hok fun b o u q r=>(hs.2 b fun z=>by rw [z,I.free] at q; cases q).trans r
theorem jB {X:Cx} {M:Model} {A:Around} {E:Value→Shared→Prop} {pins:List (Addr × Obj)} {σ:St} {H:Hp} {s:Shared} {j:Nat} {n:Str} {pos:Pos} {Q:Unit→Shared→Prop} (I:Inv X pins σ H s) (hN:X.N.Nodup) (hj:X.N[j]? = some n)
  (hx:X.env.scope.names.lookup n=some .local) (h:∀s',Inv X pins (σ.set j none) H s'→Q () s'):wpAny M A (do bindName X.env n .none; unbindBehindTheSuite X.env n pos) Q E s:=by
 obtain ⟨m,hn,hl⟩:=I.loc;refine wpAny_nameGoes_keeps hx hn (by rw [I.ok.kind]; rfl) fun h' v hn' hs=>h _ (I.relocal hs hn' (fun i x w e1 e2 e3=>?_) (by simp));have hij:i≠j:=fun z=>by
  subst z;rw [List.getElem?_set] at e2;simp at e2
 rw [List.getElem?_set_ne (Ne.symm hij)] at e2;obtain ⟨u,r,q⟩:=hl i x w e1 e2 e3;refine ⟨u,r,?_⟩;rcases q with ⟨k,e⟩ | ⟨k,c,e,z⟩
 ·refine .inl ⟨k,?_⟩;have:x≠n:=fun e=>hij (jL hN e1 (e ▸ hj));simp [this,e]
 ·exact .inr ⟨k,c,e,z.sameBut hs (I.cne x c e)⟩
abbrev Cx.held (X:Cx) (e:Addr):Cx:={X with A:=X.A.mark (some (.ref e)),calm:=false,xe:=fun _ _=>False}
theorem Inv.held {X:Cx} {pins:List (Addr × Obj)} {σ:St} {H:Hp} {s:Shared} (I:Inv X pins σ H s) (e:Addr):Inv (X.held e) pins σ H s:=
 ⟨⟨I.ok.mod,I.ok.kind,I.ok.glob,I.ok.blt,I.ok.above,I.ok.inj,I.ok.has,I.ok.cab,(fun z=>nomatch z),I.ok.frames,I.ok.stk,I.ok.exf,I.ok.bs,I.ok.bsz,I.ok.noex,I.ok.exfs,I.ok.funs,I.ok.frf⟩,I.os,I.bare,I.base,I.loc,I.cell,I.free,I.freeC,I.pin,I.hok,I.len⟩
theorem Inv.unheld {X:Cx} {pins:List (Addr × Obj)} {σ:St} {H:Hp} {s:Shared} {e:Addr} (ok:X.Ok) (I:Inv (X.held e) pins σ H s):Inv X pins σ H s:=⟨ok,I.os,I.bare,I.base,I.loc,I.cell,I.free,I.freeC,I.pin,I.hok,I.len⟩
def Ends.drop (D:Ends) (j:Nat):Ends:={nx:=fun σ H=>D.nx (σ.set j none) H,rt:=D.rt,bk:=fun σ H=>D.bk (σ.set j none) H,ct:=fun σ H=>D.ct (σ.set j none) H}
def uk (K:PySem.W.Frag) (D:Addr) (j:Nat) (tb:TSX) (th:TS):TS:=fun En σ H=>tb En (fun c d H1=>∃C,c = .ref C∧PySem.W.mroIn K C (.ref D)=some true∧∀e,H1 e=none→th (En.drop j) (σ.set j (some (.ref e))) (upd H1 e (jR C e d))) σ H
theorem r6 {X:Cx} {body:List Stmt} {tb:TSX} {th:TS} {d n:Str} {D:Addr} {j:Nat} {b0:Stmt} {suite:List Stmt} {pd hpos pos:Pos} (hb:PSX X body tb) (hN:X.N.Nodup) (hj:X.N[j]? = some n) (hx:X.env.scope.names.lookup n=some .local)
  (hst:X.stack=X.env :: X.outer) (hL:X.env.frame=some X.env.locals) (hg:Gl X d) (hm:X.mg d=some (.ref D)) (c:CatchK X.K D) (hs:∀e,PSs (X.held e) (b0 :: suite) th) (hd:(d == ("__debug__" : Str))=false:=by decide) :
  PS X (.Try body [.ExceptHandler (some (.Name d pd)) (some n) (b0 :: suite) hpos] [] [] pos) (uk X.K D j tb th):=by
 intro pins s σ H En I h;refine wpAny_Try_except (wpAny_mono (hb pins s σ H _ _ I h) (fun f s1 q=>?_) fun ev s1 q=>?_)
 ·cases f with
  | next=>exact wpAny_execs_nil q
  | brk=>exact q
  | cont=>exact q
  | ret v=>exact q
 ·obtain ⟨H0,s0,I0,e,C,T,H1,rfl,os,bare,un,hok,he,hT,⟨n0,t0,ne,⟨oe,vs,q1,q2,q4,q5⟩,⟨oT,ts,r1,r2,r3⟩⟩,C',hC',sub,hw⟩:=q;cases hC';have q3:oe.dict=ww s1.heap e:=(jA q1).symm;have I1:=I0.call' os un hok bare (fun _ z=>nomatch z);have hz:1 < vs.size:=(Array.getElem?_eq_some_iff.mp q5).1;have fr:X.A.frames=some (X.env :: X.outer):=by rw [← hst]; exact I.ok.frames
  have st1:s1.heap.FunFrames X.base (X.env :: X.outer):=by rw [← hst]; exact I1.stack
  refine qI fr st1 hL q1 q4 (.inr ⟨T,oT,ts,q5,ne,r1,r2,r3⟩) fun h1 T' N1=>?_;have tf:T'∉frs (X.env :: X.outer):=fun z=>by
   obtain ⟨_,o,ho,_⟩:=st1.mem z;rw [N1.new] at ho; cases ho
  refine mx (s:={s1 with heap:=h1}) N1 q4 hz tf fun h2 N2=>?_;have N2':Noted (frs X.stack) e X.env.locals oe vs s1.heap h2 T' .none:=by rw [hst]; exact N2
  have I2:=jS I0 os bare un hok he hT n0 t0 q5 q2 q3 q4 N2';refine wpAny_handleBy_cons (codeAny_handlers_test (iE (I2.held e) hg hm ?_ hd)) (by intro z; cases z);refine pM I2.kIn c sub N2.exc ((Obj.cls_mapFields _ _).trans q2) ?_;show codeAny _ _ _ _ _;refine codeAny_handlers_suite_as ?_;refine mx (s:={s1 with heap:=h2}) N2 q4 hz tf fun h3 N3=>?_;have N3':Noted (frs X.stack) e X.env.locals oe vs s1.heap h3 T' .none:=by rw [hst]; exact N3
  have I3:=jS I0 os bare un hok he hT n0 t0 q5 q2 q3 q4 N3';refine eU I3 hN hj (.inl hx) (v:=.ref e) rfl (fun s4 I4=>?_) (.inr hx);refine wpAny_mono (hs e pins s4 _ _ _ (I4.held e) (hw e he)) (fun f s5 q=>?_) fun _ _ z=>False.elim z;show wpAny _ _ _ _ _ _;cases f with
  | next=>
   obtain ⟨σ5,H5,I5,q⟩:=q;exact jB (I5.unheld I.ok) hN hj hx fun s6 I6=>⟨_,_,I6,q⟩
  | brk=>
   obtain ⟨σ5,H5,I5,q⟩:=q;exact jB (I5.unheld I.ok) hN hj hx fun s6 I6=>⟨_,_,I6,q⟩
  | cont=>
   obtain ⟨σ5,H5,I5,q⟩:=q;exact jB (I5.unheld I.ok) hN hj hx fun s6 I6=>⟨_,_,I6,q⟩
  | ret u=>
   obtain ⟨v5,σ5,H5,I5,r5,q⟩:=q;exact jB (I5.unheld I.ok) hN hj hx fun s6 I6=>⟨_,_,_,I6,r5,q⟩
structure ClsX (K:PySem.W.Frag) (C:Addr):Prop where
 ga:PySem.W.findIn K (.ref C) "__getattribute__" = some (some (.builtin "BaseException.__getattribute__"))
 no:PySem.W.findIn K (.ref C) "__getattr__" = some none
 hd:PySem.W.hasDictIn K C=true
 ha:PySem.W.findIn K (.ref C) "__class__" = some (some (.builtin "object.__class__"))
 hn:PySem.W.specialIn K (.builtin "object.__class__") "__get__" = some (some (.builtin "getset_descriptor.__get__"))
 ht:PySem.W.takesIn K (.builtin "object.__class__")=some true
 hm:PySem.W.mroIn K C (.type "object")=some true
 hb:PySem.W.mroIn K C (.type "BaseException")=some true
section
variable {prog:Program} {w:World} {A:Around} {E:Value→Shared→Prop} {K:PySem.W.Frag} {C e:Addr} {ox:Obj} {od:Option Obj}
theorem ul {s:Shared} {tk:Tok} {Q:Fin→Shared→Prop} (c:ClsX K C) (X:K.In s.heap) (I:PySem.W.InstAt s.heap e ox C od) (h:Q (.done (.ret (.ref C))) s) :
  wpAny (model prog w) A (Builtin.«object.__getattribute__» ⟨[.ref e,.str "__class__" tk],[]⟩) Q E s:=by
 have hf:PySem.W.findObj K C od "__class__" = some (.bind (.builtin "getset_descriptor.__get__") (.builtin "object.__class__")):=by
  obtain ⟨cd,q,_⟩:=PySem.W.any_some c.hd;unfold PySem.W.findObj;rw [q,Option.bind_some,c.ha,Option.bind_some];simp [c.hn,c.ht]
 obtain ⟨hh,gg,d,t,os⟩:=s;have L0:=I.type (M:=model prog w);have L1:=PySem.W.looks_find (M:=model prog w) X I hf;unfold Builtin.«object.__getattribute__»
 repeat (first | with_reducible refine L0.at ?_ | with_reducible refine L1.at ?_ | wp_step)
 exact PySem.W.class_get (ox:=ox) (od:=od) X I c.hm (wpAny_pure h)
theorem um {M:Model} {s:Shared} {nameV:Value} {Q:Unit→Shared→Prop} (c:ClsX K C) (X:K.In s.heap) (I:PySem.W.InstAt s.heap e ox C od) (h:Q () s) :
  wpAny M A (checkBuiltinCall "BaseException.__getattribute__" ⟨[.ref e,nameV],[]⟩) Q E s:=by
 have hk:builtinKind "BaseException.__getattribute__" = some .slot:=by decide +kernel
 have hs:splitId "BaseException.__getattribute__" = some ("BaseException","__getattribute__"):=by decide +kernel
 have ha:=F.args_bexc_ga (.ref e) nameV;have LI:PySem.W.Looks M s.heap (isInstance (.ref e) (.type "BaseException")) true:=(I.type (M:=M)).andThen (PySem.W.looks_mroIn X c.hb);obtain ⟨hh,gg,d,t,os⟩:=s;simp only [checkBuiltinCall,hk,hs];refine wpAny_bind (LI.at ?_)
 repeat (first | assumption | wp_step)
theorem lC {s:Shared} {Q:Option Value→Shared→Prop} (c:ClsX K C) (X:K.In s.heap) (I:PySem.W.InstAt s.heap e ox C od) (h:Q (some (.ref C)) {s with toks:=s.toks + 1}) :
  wpAny (model prog w) A (getAttr? (.ref e) "__class__") Q E s:=by
 obtain ⟨hh,gg,d,t,os⟩:=s;have L0:=I.type (M:=model prog w);have L1:=PySem.W.looks_findIn (M:=model prog w) X c.ga;have L2:=PySem.W.looks_findIn (M:=model prog w) X c.no;have f3:=PySem.F.attr_ValueError.ga.bind (.ref e);unfold getAttr? getAttrBy? getAttrBy;refine wpAny_bind (wpAny_mkText (wpAny_bind (wpAny_attempt (wpAny_holding (wpAny_bind (L0.at (wpAny_bind (L1.at ?_))))))));have e1:(onTheHeap (Value.ref C) && Value.builtin "BaseException.__getattribute__" == Value.builtin "object.__getattribute__")=false:=by rw [show (Value.builtin "BaseException.__getattribute__" == Value.builtin "object.__getattribute__")=false from by decide +kernel,Bool.and_false]
 dsimp only;rw [e1];simp only [Bool.false_eq_true,if_false];unfold getAttrByItsOwn hookBefore
 repeat (first | with_reducible refine L2.at ?_ | assumption | wp_step)
 refine codeAny_call_builtin PySem.F.attr_ValueError.ga.plain F.entry_bexc_ga (um c X I (ul c X I ?_));show wpAny (model prog w) A (handedOut (.ref C)) _ _ _;exact PySem.W.handed_on rfl (wpAny_pure h)
end
theorem nZ {K:PySem.W.Frag} {C e:Addr} (c:ClsX K C):PySem.W.KitX K (.ref e) (.ref C) (Ad C e) where
 ty:=fun M h _ ⟨o,h1,h2,_⟩=>h2 ▸ (PySem.W.Looks.ld h1).andThen .now
 it:=fun M h X _=>by
  obtain ⟨cd,q,_⟩:=PySem.W.any_some c.hd;exact fq X (by rw [q]; rfl)
 ne:=fun h tp dd its n sl X htp=>by
  obtain ⟨cd,q,_⟩:=PySem.W.any_some c.hd;refine Bool.eq_false_iff.mpr fun z=>?_;have e:C=tp:=Value.ref.inj (beq_iff_eq.mp z);subst e;unfold PySem.W.clsIn at q
  split at q
  ·rename_i lk
   have z:=(X _ _ lk).symm.trans htp;cases z
  ·cases q
 ca:=fun {prog w A E Q s} X ⟨o,h1,h2,h3,h4⟩ k=>by
  have I:PySem.W.InstAt s.heap e o C none:=⟨h1,h2,h4,by rw [h3]; exact trivial⟩;exact lC c X I k
theorem r9 {K:PySem.W.Frag} {C e d:Addr} (c:ClsX K C):PySem.W.KitX K (.ref e) (.ref C) (fun h=>jQ C e (some d) h∧∃od,h.get? d=some od) where
 ty:=fun M h _ ⟨⟨o,h1,h2,_⟩,_⟩=>h2 ▸ (PySem.W.Looks.ld h1).andThen .now
 it:=fun M h X _=>by
  obtain ⟨cd,q,_⟩:=PySem.W.any_some c.hd;exact fq X (by rw [q]; rfl)
 ne:=fun h tp dd its n sl X htp=>(nZ (e:=e) c).ne h tp dd its n sl X htp
 ca:=fun {prog w A E Q s} X ⟨⟨o,h1,h2,h3,h4⟩,od,hod⟩ k=>by
  have I:PySem.W.InstAt s.heap e o C (some od):=⟨h1,h2,h4,by rw [h3]; exact hod⟩;exact lC c X I k
inductive TyX (K:PySem.W.Frag) (H:Hp):V→Value→Prop where
 | of {x:V} {t:Value} (h:TyOf K H x t):TyX K H x t
 | exc {C e:Addr} (h:H e=some (yQ C e)) (c:ClsX K C):TyX K H (.ref e) (.ref C)
 | excD {C e d:Addr} {fs:List (Str × V)} (h:H e=some (jR C e (some d))) (hd:H d=some (.xd fs)) (c:ClsX K C):TyX K H (.ref e) (.ref C)
def wD:V→Option Value
 | .ty n=>some (.type n)
 | .ref a=>some (.ref a)
 | _=>none
theorem og {c:V} {u cv:Value} (h:wD c=some cv) (r:RelV c u):u=cv:=by
 cases c with
 | ty n=>cases h; exact r
 | ref a=>cases h; exact r
 | _=>cases h
theorem oh:∀{xs:List V} {us cs:List Value},Vals xs us→xs.map wD=cs.map some→us=cs
 | _,_,[],.nil,_=>rfl
 | _,_,_ :: _,.nil,h=>by simp at h
 | _,_,[],.cons _ _,h=>by simp at h
 | _,_,c :: cs,.cons r t,h=>by
  simp only [List.map_cons,List.cons.injEq] at h;rw [og h.1 r,oh t h.2]
section
variable {X:Cx}
def AV (K:PySem.W.Frag):List V→Hp→VK→Prop:=fun vs H Q=>∃x c t b,vs=[x,c]∧TyX K H x t∧((∃cv,wD c=some cv∧PySem.W.kitOne K t cv=some b)∨∃p xs cs,c = .ref p∧SqT K H p xs∧xs.map wD=cs.map some∧PySem.W.kitAny K t cs=some b)∧Q (.bl b) H
theorem kitx_of {pins:List (Addr × Obj)} {σ:St} {H:Hp} {s:Shared} {x:V} {t u:Value} (I:Inv X pins σ H s) (rx:RelV x u) (ty:TyX X.K H x t):∃HH,PySem.W.KitX X.K u t HH∧HH s.heap∧u≠.builtin "__main__.__loader__#opaque":=by
 cases ty with
 | exc h c=>
  cases (show u=_ from rx);obtain ⟨p,_⟩:=I.hok _ _ h;exact ⟨_,nZ c,p,fun z=>nomatch z⟩
 | excD h hd c=>
  cases (show u=_ from rx);obtain ⟨p,_⟩:=I.hok _ _ h;obtain ⟨_,⟨od,_,_,q,_⟩,_⟩:=I.hok _ _ hd;exact ⟨_,r9 c,⟨p,od,q⟩,fun z=>nomatch z⟩
 | of ty=>
  cases ty with
  | non=>cases (show u=Value.none from rx); exact ⟨_,PySem.W.kitx_none,trivial,fun z=>nomatch z⟩
  | bl y=>cases (show u=Value.bool y from rx); exact ⟨_,PySem.W.kitx_bool,trivial,fun z=>nomatch z⟩
  | int i=>obtain ⟨t,q⟩:=(show ∃t,u=Value.int i t from rx); cases q; exact ⟨_,PySem.W.kitx_int,trivial,fun z=>nomatch z⟩
  | str y=>obtain ⟨t,q⟩:=(show ∃t,u=Value.str y t from rx); cases q; exact ⟨_,PySem.W.kitx_str,trivial,fun z=>nomatch z⟩
  | flt y=>obtain ⟨t,q⟩:=(show ∃t,u=Value.float y t from rx); cases q; exact ⟨_,PySem.W.kitx_float,trivial,fun z=>nomatch z⟩
  | @lst a xs ea=>
   cases (show u=Value.ref a from rx);obtain ⟨_,_,n,_,h1⟩:=(show ObjOk X.prog X.w H s.heap a (.lst xs) from I.hok a _ ea);exact ⟨_,PySem.W.kitx_list,⟨_,h1,rfl⟩,fun z=>nomatch z⟩
  | @frz a ob xs ea=>
   cases (show u=Value.ref a from rx);obtain ⟨_,_,_,n,_,h1⟩:=(show ObjOk X.prog X.w H s.heap a (.frz ob (.lst xs)) from I.hok a _ ea);exact ⟨_,PySem.W.kitx_list,⟨_,h1,rfl⟩,fun z=>nomatch z⟩
  | @tup a xs ea=>
   cases (show u=Value.ref a from rx);obtain ⟨_,_,_,p⟩:=(show ObjOk X.prog X.w H s.heap a (.tup xs) from I.hok a _ ea);obtain ⟨o,h1,h2,_⟩:=p;exact ⟨_,PySem.W.kitx_tuple,⟨o,h1,h2⟩,fun z=>nomatch z⟩
  | @dK a kvs ea=>
   cases (show u=Value.ref a from rx);obtain ⟨_,_,vs,_,p⟩:=(show ObjOk X.prog X.w H s.heap a (.dK kvs) from I.hok a _ ea);obtain ⟨o,es,ep,h1,h2,_⟩:=p;exact ⟨_,PySem.W.kitx_dict,⟨o,h1,h2.1⟩,fun z=>nomatch z⟩
  | @dT a kvs ea=>
   cases (show u=Value.ref a from rx);obtain ⟨_,_,xs,_,o,es,ep,h1,h2,_⟩:=(show ObjOk X.prog X.w H s.heap a (.dT kvs) from I.hok a _ ea);exact ⟨_,PySem.W.kitx_dict,⟨o,h1,h2.1⟩,fun z=>nomatch z⟩
  | @ins a C dx fs ea cl ha hn htk hm=>
   cases (show u=Value.ref a from rx);obtain ⟨mA,O,_⟩:=wm I.hok ea;obtain ⟨od,J,_⟩:=O.look;exact ⟨_,PySem.W.kitx_own (cl.get _) cl.hd ha hn htk hm,J,fun z=>nomatch z⟩
theorem aV:dl X (.builtin "isinstance") (AV X.K):=by
 intro pins s σ H xs us Q I r h;obtain ⟨x,c,t,b,rfl,ty,hc,q⟩:=h;obtain ⟨u,v,rfl,rx,rc⟩:=vals2 r;obtain ⟨HH,Z,p,hx⟩:=kitx_of I rx ty;rcases hc with ⟨cv,e1,e2⟩ | ⟨a,xs,cs,rfl,hs,e1,e2⟩
 ·rw [og e1 rc];exact PySem.W.kia_one Z I.kIn p e2 hx fun tk=>⟨.bl b,H,I.tok tk,rfl,q⟩
 ·cases (show v=Value.ref a from rc);obtain ⟨its,rv,⟨o,h1,h2,n,h3⟩,_⟩:=I.tuple hs;have e3:=oh rv e1;subst e3;obtain ⟨oc,od,oda,osl⟩:=o;simp only at h2 h3;subst h2 h3;exact PySem.W.kia_tup Z I.kIn p h1 e2 hx fun tk=>⟨.bl b,H,I.tok tk,rfl,q⟩
theorem aW:bootBuiltins "isinstance" = some (.builtin "isinstance"):=by decide +kernel
def eAt (xs ys:List V) (j:Nat):Bool:=match xs[j]?,ys[j]? with
 | some x,some y=>eqV x y
 | _,_=>false
theorem iI:∀xs ys:List V,((List.range (min xs.length ys.length)).all (eAt xs ys) && xs.length == ys.length)=iw xs ys
 | [],[]=>rfl
 | [],_ :: _=>by simp [iw]
 | _ :: _,[]=>by simp [iw]
 | x :: xs,y :: ys=>by
  have ih:=iI xs ys;show _=(eqV x y && iw xs ys);rw [← ih];have e1:min (x :: xs).length (y :: ys).length=(min xs.length ys.length) + 1:=by simp only [List.length_cons]; omega
  rw [e1,List.range_succ_eq_map,List.all_cons,List.all_map];have e2:(eAt (x :: xs) (y :: ys)) 0=eqV x y:=rfl;have e3:(eAt (x :: xs) (y :: ys)) ∘ Nat.succ=eAt xs ys:=by
   funext j
   simp [eAt,Function.comp]
  have e4:((x :: xs).length == (y :: ys).length)=(xs.length == ys.length):=by
   rw [Bool.eq_iff_iff];simp
  rw [e2,e3,e4,Bool.and_assoc]
theorem oi {A:Around} {s:Shared} {xs ys:List V} {us vs:List Value} (r1:Vals xs us) (r2:Vals ys vs) (f1:xs.all cA=true) (f2:ys.all cA=true) :
  ∀j (h1:j < us.toArray.size) (h2:j < vs.toArray.size),SeqAt.EqAt A s us.toArray[j] vs.toArray[j] (eAt xs ys j):=fun j h1 h2=>by
 have l1:j < xs.length:=by rw [r1.length]; simpa using h1
 have l2:j < ys.length:=by rw [r2.length]; simpa using h2
 obtain ⟨u,q1,z1⟩:=r1.get (i:=j) (x:=xs[j]) (by simp [l1]);obtain ⟨v,q2,z2⟩:=r2.get (i:=j) (x:=ys[j]) (by simp [l2]);have e1:us.toArray[j]=u:=by
  have:us[j]? = some us.toArray[j]:=by simp
  rw [this] at q1; exact Option.some.inj q1
 have e2:vs.toArray[j]=v:=by
  have:vs[j]? = some vs.toArray[j]:=by simp
  rw [this] at q2; exact Option.some.inj q2
 have e3:eAt xs ys j=eqV xs[j] ys[j]:=by simp [eAt,l1,l2]
 rw [e1,e2,e3];exact pL z1 z2 (List.all_eq_true.mp f1 _ (List.getElem_mem l1)) (List.all_eq_true.mp f2 _ (List.getElem_mem l2))
end
theorem Inv.above {X:Cx} {pins:List (Addr × Obj)} {σ:St} {H:Hp} {s:Shared} (I:Inv X pins σ H s):sysModules < s.heap.objs.size:=by
 have h:mainGlobals < s.heap.objs.size:=(I.mod.glob.keeps I.bk).lt;exact Nat.lt_trans (by decide) h
def uo:TE:=fun _ H Q=>∀p,H p=none→Q (.ref p) (upd H p (.dK []))
theorem uq {X:Cx} {pos:Pos}:PE X (.Dict [] [] pos) uo:=fun pins s σ H Q I h=>by
 have new:ObjOk X.prog X.w (upd H s.heap.objs.size (.dK [])) (s.heap.push {cls:=.type "dict",data:=.dict #[]}) s.heap.objs.size (.dK []):=
  ⟨Nat.zero_le _,beq_eq_false_iff_ne.mpr (Ne.symm (Nat.ne_of_lt I.above)),[],.nil,Heap.DictOf.new s.heap⟩
 exact wpAny_Dict_empty ⟨.ref s.heap.objs.size,_,I.laid (a:=s.heap.objs.size) (o:=.dK []) (t':=s.toks) (fun _ _ q=>Heap.get?_push_of_some _ q) (Nat.le_refl _) new,rfl,h _ (I.hok.fresh (Nat.le_refl _))⟩
section
variable {X:Cx}
end
def gB (env:Env):List (Str × NameKind)→List (Str × Addr)→List (Str × Addr)
 | [],cs=>cs
 | (n,k) :: r,cs=>gB env r (if (k == .free)=true then (n,(env.cells.lookup n).getD 0) :: cs else cs)
theorem oj {env:Env}:∀{names:List (Str × NameKind)} {cs:List (Str × Addr)},(∀y∈names,y.2 = .free→(env.cells.lookup y.1).isSome=true)→
  (forIn names cs fun (x:Str × NameKind) (r:List (Str × Addr))=>if (x.2 == .free)=true then (do let c ← cellOf env x.1; pure (ForInStep.yield ((x.1,c) :: r))) else pure (ForInStep.yield r):Sem (List (Str × Addr)))=pure (gB env names cs)
 | [],cs,_=>rfl
 | (n,k) :: r,cs,h=>by
  have ih:=fun cs'=>oj (env:=env) (names:=r) (cs:=cs') fun y hy=>h y (List.mem_cons_of_mem _ hy);rw [List.forIn_cons]
  by_cases hk:(k == NameKind.free)=true
  ·have hs:=h (n,k) List.mem_cons_self (by simpa using hk);obtain ⟨c,hc⟩:=Option.isSome_iff_exists.mp hs;have e:cellOf env n=pure c:=by unfold cellOf; rw [show env.cells.lookup n=some c from hc]
   simp only [hk,if_true,e,gB];rw [show env.cells.lookup n=some c from hc];exact ih _
  ·simp only [hk,gB];exact ih _
theorem dY {scope:Scope} {env:Env} (h:∀y∈scope.names,y.2 = .free→(env.cells.lookup y.1).isSome=true):closureFor scope env=pure (gB env scope.names []):=by
 have e:=oj (env:=env) (cs:=[]) h;unfold closureFor;simp only [e];rfl
theorem ol {env:Env} {x:Str} {c:Addr}:∀{names:List (Str × NameKind)} {cs:List (Str × Addr)},(gB env names cs).lookup x=some c→cs.lookup x=some c∨((x,NameKind.free)∈names∧(env.cells.lookup x).getD 0=c)
 | [],cs,h=>.inl h
 | (n,k) :: r,cs,h=>by
  unfold gB at h;rcases ol (names:=r) h with z | ⟨z1,z2⟩
  ·by_cases hk:(k == NameKind.free)=true
   ·rw [if_pos hk] at z;rw [List.lookup_cons] at z;cases hx:x == n with
    | true=>
     rw [hx] at z;have e:x=n:=by simpa using hx
     subst e;have ek:k = .free:=by simpa using hk
     subst ek;exact .inr ⟨List.mem_cons_self,Option.some.inj z⟩
    | false=>rw [hx] at z; exact .inl z
   ·rw [if_neg hk] at z;exact .inl z
  ·exact .inr ⟨List.mem_cons_of_mem _ z1,z2⟩
theorem lD {env:Env} {x:Str}:∀{names:List (Str × NameKind)} {cs:List (Str × Addr)},cs.lookup x=some ((env.cells.lookup x).getD 0)→(gB env names cs).lookup x=some ((env.cells.lookup x).getD 0)
 | [],cs,h=>h
 | (n,k) :: r,cs,h=>by
  unfold gB;refine lD (names:=r) ?_
  by_cases hk:(k == NameKind.free)=true
  ·rw [if_pos hk,List.lookup_cons];cases hx:x == n with
   | true=>
    have e:x=n:=by simpa using hx
    subst e;rfl
   | false=>exact h
  ·rw [if_neg hk]; exact h
theorem iJ {env:Env} {x:Str}:∀{names:List (Str × NameKind)} {cs:List (Str × Addr)},(x,NameKind.free)∈names→(gB env names cs).lookup x=some ((env.cells.lookup x).getD 0)
 | [],cs,h=>nomatch h
 | (n,k) :: r,cs,h=>by
  unfold gB;rcases List.mem_cons.mp h with z | z
  ·cases z;refine lD (names:=r) ?_;rw [if_pos (by rfl),List.lookup_cons];simp
  ·exact iJ (names:=r) z
theorem ci {x:Str} {k:NameKind}:∀{names:List (Str × NameKind)},names.lookup x=some k→(x,k)∈names
 | [],h=>nomatch h
 | (n,k') :: r,h=>by
  rw [List.lookup_cons] at h;cases hx:x == n with
  | true=>
   rw [hx] at h;have e:x=n:=by simpa using hx
   subst e;cases h;exact List.mem_cons_self
  | false=>rw [hx] at h; exact List.mem_cons_of_mem _ (ci h)
theorem dI {env:Env} {x:Str} {k':NameKind}:∀{names:List (Str × NameKind)},
  (names.map fun (n,k)=>if (k == NameKind.free && env.scope.kind == .function && env.kindOf n == some .cell) then (n,NameKind.cell) else (n,k)).lookup x=some k'→∃k,names.lookup x=some k∧(k'=k∨(k = .free∧k' = .cell))
 | [],h=>nomatch h
 | (n,k) :: r,h=>by
  rw [List.map_cons] at h
  by_cases hc:(k == NameKind.free && env.scope.kind == .function && env.kindOf n == some .cell)=true
  ·simp only [hc,if_true] at h;rw [List.lookup_cons] at h ⊢;cases hx:x == n with
   | true=>
    rw [hx] at h;cases h;have ek:k = .free:=by
     rw [Bool.and_eq_true,Bool.and_eq_true] at hc
     simpa using hc.1.1
    exact ⟨k,rfl,.inr ⟨ek,rfl⟩⟩
   | false=>rw [hx] at h; exact dI h
  ·simp only [hc,Bool.false_eq_true,if_false] at h;rw [List.lookup_cons] at h ⊢;cases hx:x == n with
   | true=>rw [hx] at h; exact ⟨k',h,.inl rfl⟩
   | false=>rw [hx] at h; exact dI h
theorem cZ {env:Env} {x:Str}:∀{names:List (Str × NameKind)},names.lookup x=some .free→
  (names.map fun (n,k)=>if (k == NameKind.free && env.scope.kind == .function && env.kindOf n == some .cell) then (n,NameKind.cell) else (n,k)).lookup x=some .cell∨
  (names.map fun (n,k)=>if (k == NameKind.free && env.scope.kind == .function && env.kindOf n == some .cell) then (n,NameKind.cell) else (n,k)).lookup x=some .free
 | [],h=>nomatch h
 | (n,k) :: r,h=>by
  rw [List.map_cons];rw [List.lookup_cons] at h
  by_cases hc:(k == NameKind.free && env.scope.kind == .function && env.kindOf n == some .cell)=true
  ·simp only [hc,if_true,List.lookup_cons];cases hx:x == n with
   | true=>exact .inl rfl
   | false=>rw [hx] at h; exact cZ h
  ·simp only [hc,Bool.false_eq_true,if_false,List.lookup_cons];cases hx:x == n with
   | true=>rw [hx] at h; cases h; exact .inr rfl
   | false=>rw [hx] at h; exact cZ h
def blk (X:Cx) (scope:Scope) (N:List Str) (s:Shared) (H:Hp) (fp:List Addr):Cx:=
 {X with N:=N,s₀:=s,H₀:=H,env:=compEnvC scope (gB X.env scope.names []) s.heap.objs.size X.env,outer:=X.stack,stack:=X.stack,ex:=fp,fn:=fun _=>false,pn:=[],xe:=fun _ _=>False}
structure BlkOk (esc scope:Scope) (N:List Str) (fi:List Nat):Prop where
 kind:scope.kind = .function
 nocell:∀y∈scope.names,y.2≠.cell
 loc:∀y∈scope.names,y.2 = .local→scope.names.lookup y.1=some .local
 free:∀y∈scope.names,y.2 = .free→esc.names.lookup y.1=some .cell∨esc.names.lookup y.1=some .free
 ix:∀i∈fi,scope.names.lookup (N.getD i "")=some .free
def nB (N os:List Str) (fi:List Nat):List Str:=os ++ fi.map fun i=>N.getD i ""
def sB (σ:St) (os:List Str) (fi:List Nat):St:=os.map (fun _=>none) ++ fi.map fun i=>(σ[i]?).join
section
variable {X:Cx} {pins:List (Addr × Obj)} {σ:St} {H:Hp} {s:Shared} {scope esc:Scope} {os:List Str} {fi:List Nat} {fp:List Addr}
theorem dQ (B:BlkOk esc scope X.N fi) (he:X.env.scope=esc) (I:Inv X pins σ H s):∀y∈scope.names,y.2 = .free→(X.env.cells.lookup y.1).isSome=true:=fun y hy hf=>by
 have k:=B.free y hy hf;rw [← he] at k;obtain ⟨c,e⟩:=I.ok.has y.1 k;rw [e]; rfl
theorem fw (B:BlkOk esc scope X.N fi) (he:X.env.scope=esc) (I:Inv X pins σ H s) {x:Str} {c:Addr} (h:(gB X.env scope.names []).lookup x=some c):X.env.cells.lookup x=some c:=by
 rcases ol h with z | ⟨z1,z2⟩
 ·cases z
 ·obtain ⟨d,e⟩:=Option.isSome_iff_exists.mp (dQ B he I _ z1 rfl);rw [show X.env.cells.lookup x=some d from e] at z2 ⊢;rw [← z2]; rfl
theorem pN (B:BlkOk esc scope X.N fi) (he:X.env.scope=esc) (I:Inv X pins σ H s) (hf:∀b∈fp,cX X pins H b) (ho:∀b∈fp,∃o,s.heap.get? b=some o):(blk X scope (nB X.N os fi) s H fp).Ok where
 mod:=I.ok.mod
 kind:=B.kind
 glob:=I.ok.glob
 blt:=I.ok.blt
 above:=Nat.le_refl _
 inj:=fun x y c h1 h2=>I.ok.inj x y c (fw B he I h1) (fw B he I h2)
 has:=fun x h=>by
  have q:∃k,scope.names.lookup x=some k∧(k = .cell∨k = .free):=by
   rcases h with h | h
   ·obtain ⟨k,e,z | ⟨z,_⟩⟩:=dI h
    ·exact ⟨k,e,.inl z.symm⟩
    ·exact ⟨k,e,.inr z⟩
   ·obtain ⟨k,e,z | ⟨_,z⟩⟩:=dI h
    ·exact ⟨k,e,.inr z.symm⟩
    ·cases z
  obtain ⟨k,e,z | z⟩:=q
  ·subst z; exact absurd rfl (B.nocell _ (ci e))
  ·subst z; exact ⟨_,iJ (ci e)⟩
 cab:=fun x c h _=>nomatch h
 hd:=I.ok.hd
 frames:=I.ok.frames
 stk:=.inl rfl
 exf:=fun b hb=>by
  obtain ⟨o,e⟩:=ho b hb;exact ⟨Nat.ne_of_lt (Heap.lt_size e),fun x c h=>(hf b hb).2.2.2.2.1 x c (fw B he I h)⟩
 bs:=I.bs
 bsz:=Nat.le_trans I.ok.bsz I.sz
 noex:=fun b o e hb=>by
  rcases (hf b hb).2.2.2.1 with z | z
  ·exact I.ok.noex b o e z
  ·exact absurd (Nat.lt_of_lt_of_le (Heap.lt_size e) (Nat.le_trans I.ok.bsz z)) (Nat.lt_irrefl _)
 exfs:=fun b hb z=>by
  rcases List.mem_cons.mp (I.stkSub b z) with e | e
  ·exact (hf b hb).2.1 e
  ·exact (hf b hb).2.2.1 e
 funs:=I.stack
 frf:=I.stkFree
theorem jC {h1:Heap} {t1:Nat} {m1:Str→Option Value} (B:BlkOk esc scope X.N fi) (he:X.env.scope=esc) (I:Inv X pins σ H s) (hf:∀b∈fp,cX X pins H b) (ho:∀b∈fp,∃o,s.heap.get? b=some o)
  (k:∀b o,s.heap.get? b=some o→h1.get? b=some o) (hn:h1.Ns s.heap.objs.size m1):Inv (blk X scope (nB X.N os fi) s H fp) [] (sB σ os fi) H {s with heap:=h1,toks:=t1} where
 ok:=pN B he I hf ho
 os:=rfl
 bare:=I.bare
 base:=Un.kept k
 loc:=by
  refine ⟨m1,hn,fun j x v e1 e2 e3=>?_⟩;have hj:os.length≤j:=by
   by_cases hj:j < os.length
   ·have z:(sB σ os fi)[j]? = some (some v):=e2;unfold sB at z;rw [List.getElem?_append_left (by simpa using hj),List.getElem?_map] at z;cases q:os[j]? with
    | none=>rw [q] at z; cases z
    | some _=>rw [q] at z; cases z
   ·omega
  have z1:(nB X.N os fi)[j]? = some x:=e1;have z2:(sB σ os fi)[j]? = some (some v):=e2;unfold nB at z1;unfold sB at z2;rw [List.getElem?_append_right hj,List.getElem?_map] at z1;rw [List.getElem?_append_right (by simpa using hj),List.length_map,List.getElem?_map] at z2;cases q:fi[j - os.length]? with
  | none=>rw [q] at z1; cases z1
  | some i=>
   rw [q] at z1 z2;have w1:X.N.getD i "" = x:=Option.some.inj z1;have w2:(σ[i]?).join=some v:=Option.some.inj z2;have w3:σ[i]? = some (some v):=by
    cases p:σ[i]? with
    | none=>rw [p] at w2; cases w2
    | some y=>rw [p] at w2; exact congrArg some w2
   have lx:scope.names.lookup x=some .free:=by rw [← w1]; exact B.ix i (List.mem_of_getElem? q)
   have li:i < X.N.length:=by rw [← I.len]; exact (List.getElem?_eq_some_iff.mp w3).1
   have w4:X.N[i]? = some x:=by
    rw [List.getD_eq_getElem?_getD,List.getElem?_eq_getElem li] at w1;rw [List.getElem?_eq_getElem li];exact congrArg some w1
   have kx:=B.free _ (ci lx) rfl;rw [← he] at kx;obtain ⟨m,hm,hl⟩:=I.loc;obtain ⟨u,r,l⟩:=hl i x v w4 w3 (by rcases kx with kx | kx; exact .inr (.inl kx); exact .inr (.inr kx));refine ⟨u,r,.inr ⟨cZ lx,?_⟩⟩;rcases l with ⟨a,_⟩ | ⟨_,c,e,ic⟩
   ·rcases kx with kx | kx <;> rw [show X.env.kindOf x=X.env.scope.names.lookup x from rfl,kx] at a <;> cases a
   ·refine ⟨c,?_,?_⟩
    ·have:=iJ (env:=X.env) (cs:=[]) (ci lx);rw [e] at this;exact this
    ·obtain ⟨o,ho,hd⟩:=ic;exact ⟨o,k _ o ho,hd⟩
 cell:=fun x c h=>by
  obtain ⟨v,o,ho,hd⟩:=I.cell x c (fw B he I h);exact ⟨v,o,k _ o ho,hd⟩
 free:=I.hok.fresh (Nat.le_refl _)
 freeC:=fun x c h=>I.freeC x c (fw B he I h)
 pin:=fun p hp=>nomatch hp
 hok:=I.hok.kept k
 len:=by
  show (sB σ os fi).length=(nB X.N os fi).length;unfold sB nB;simp
theorem jD {N:List Str} {s':Shared} {H':Hp} {σ':St} {pins':List (Addr × Obj)} {h':Heap} (I:Inv X pins σ H s) (hf:∀b∈fp,cX X pins H b) (I':Inv (blk X scope N s H fp) pins' σ' H' s') (sb:Heap.SameBut s.heap.objs.size s'.heap h') :
  Inv X pins σ H' {s' with heap:=h'}:=by
 have ne:∀b o,s.heap.get? b=some o→b≠s.heap.objs.size:=fun b o e=>Nat.ne_of_lt (Heap.lt_size e);have un:Un (frs X.stack) fp H H' s.heap h':=by
  have u:Un (frs X.stack) fp H H' s.heap s'.heap:=I'.base;exact ⟨fun b o e n hb hx=>(sb.2 b (ne b o e)).trans (u.keep b o e n hb hx),fun b o e n hb hx=>by
    obtain ⟨sl,q⟩:=u.slot b o e n hb hx;exact ⟨sl,(sb.2 b (ne b o e)).trans q⟩,u.free,fun b o e hx=>by
    obtain ⟨o',q⟩:=u.there b o e hx;exact ⟨o',(sb.2 b (ne b o e)).trans q⟩,u.tups,u.frzs,u.tbls⟩
 have hok:HOk X.prog X.w H' h':=fun b ob e=>by
  have fr:H' s.heap.objs.size=none:=I'.free;refine (I'.hok b ob e).stay (fun c w' hc q=>(sb.2 c ?_).trans q) (fun _ q=>q) fun _ _ q=>q;rintro rfl;rcases hc with rfl | hc
  ·rw [fr] at e; cases e
  ·rw [fr] at hc; cases hc
 obtain ⟨hh,g,d,t,os'⟩:=s';obtain rfl:os'=s.os:=I'.os;have J:=I.call (h':=h') (g':=g) (d':=d) (t':=t) (ch:=fp) un hok I'.bare fun b hb=>⟨(hf b hb).2.2.2.1,(hf b hb).2.1,(hf b hb).2.2.2.2.1,(hf b hb).2.2.2.2.2⟩;exact J
end
abbrev F0:Value→Shared→Prop:=fun _ _=>False
theorem bV {α:Type} {M:Model} {A:Around} {t:Sem α} {Q Q':α→Shared→Prop} {E:Value→Shared→Prop} {s:Shared} (h:wpAny M A t Q F0 s) (hQ:∀a s,Q a s→Q' a s):wpAny M A t Q' E s:=wpAny_mono h hQ fun _ _ z=>z.elim
def PTs (X:Cx) (ifs:List Expr) (t:TT):Prop:=
 ∀(pins:List (Addr × Obj)) (s:Shared) (σ:St) (H:Hp) (Q:Bool→Hp→Prop),Inv X pins σ H s→t σ H Q→
  wpAny (model X.prog X.w) X.A (forIn ifs true fun e b=>if b=true then (do let y ← isTrue e X.env (eval e X.env); pure (ForInStep.yield y)) else pure (ForInStep.yield b)) (TP X pins σ Q) X.xe s
theorem wE {X:Cx}:PTs X [] (fun _ H Q=>Q true H):=fun _ _ _ H _ I h=>wpAny_pure ⟨H,I,h⟩
theorem wF {X:Cx} {e:Expr} {t:TT} (h:PT X e t):PTs X [e] t:=by
 intro pins s σ H Q I q;rw [List.forIn_cons];simp only [if_true];exact wpAny_bind (wpAny_bind (thn (h pins s σ H Q I q) fun y s1 z=>wpAny_pure (wpAny_pure z)))
theorem se {P:Program} {w:World} {A:Around} {elt tg iter:Expr} {ifs:List Expr} {scope:Scope} {pos:Pos} {it acc:Value} {env:Env} {R:Result→Shared→Prop} {s:Shared} (I:Nat→Shared→Prop)
  (turn:∀n s,I n s→wpAny (model P w) A (pyNext it) (fun r s1=>match r with
   | none=>R (.ok .next) s1
   | some v=>wpAny (model P w) A (letOwnedTupleGo tg it v) (fun _ s2=>wpAny (model P w) A (assign tg env v) (fun _ s3=>
     wpAny (model P w) A (forIn ifs true fun e b=>if b=true then (do let y ← isTrue e env (eval e env); pure (ForInStep.yield y)) else pure (ForInStep.yield b)) (fun ok s4=>
      if ok=true then wpAny (model P w) A (eval elt env) (fun x s5=>wpAny (model P w) A (call (.builtin "list.append") [acc,x]) (fun _ s6=>∃m,m < n∧I m s6) F0 s5) F0 s4
      else ∃m,m < n∧I m s4) F0 s3) F0 s2) F0 s1) F0 s)
  (n:Nat) (h:I n s):codeAny (model P w) A (.compLoop (.ListComp elt [⟨tg,iter,ifs,0⟩] scope pos) 0 it acc env) R s:=by
 refine codeAny_loop rfl I (fun n s hI=>?_) n h;show wpAny _ A ((compTurn (.ListComp elt [⟨tg,iter,ifs,0⟩] scope pos) 0 it acc env).onRaise (fun x=>do noteFrame x env; theTreesLotGoes x)) _ _ s;refine wpAny_noted ?_;rw [compTurn_list];refine wpAny_bind (wpAny_standAt (wpAny_bind (bV (turn n s hI) fun r s1 h1=>?_)));cases r with
 | none=>exact wpAny_pure h1
 | some v=>
  refine wpAny_bind (bV h1 fun _ s2 h2=>wpAny_bind (bV h2 fun _ s3 h3=>wpAny_bind (bV h3 fun ok s4 h4=>?_)));cases ok with
  | false=>exact wpAny_pure ⟨rfl,h4⟩
  | true=>exact wpAny_bind (wpAny_bind (bV h4 fun x s5 h5=>wpAny_bind (bV h5 fun _ s6 h6=>wpAny_pure (wpAny_pure ⟨rfl,h6⟩))))
def LCr (l:Addr) (J:It) (g:TG) (tt:TT) (te:TE) (σb:St) (H:Hp) (Q:VK):Prop:=∃W:Nat→Nat→St→Hp→Prop,(∃m,W 0 m σb H)∧∀i m σ2 H2,W i m σ2 H2→
 (J.stop i H2∧Q (.ref l) H2)∨(J.go i H2∧∀x H3,J.yld i H2 x H3→g x σ2 H3 fun σ4 H4=>tt σ4 H4 fun ok H5=>
  if ok=true then te σ4 H5 fun v H6=>∃xs,H6 l=some (.lst xs)∧xs.length < sizeLine∧∃m',m' < m∧W (i + 1) m' σ4 (upd H6 l (.lst (xs ++ [v]))) else ∃m',m' < m∧W (i + 1) m' σ4 H5)
def tLC (os:List Str) (fi:List Nat) (wi:TI) (g:TG) (tt:TT) (te:TE):TE:=fun σ H Q=>wi σ H fun J H1=>∀l,H1 l=none→LCr l J g tt te (sB σ os fi) (upd H1 l (.lst [])) Q
section
variable {X:Cx} {tg iter elt:Expr} {ifs:List Expr} {scope esc:Scope} {pos:Pos} {N os:List Str} {fi:List Nat} {wi:TI} {g:TG} {tt:TT} {te:TE}
theorem lF {pins:List (Addr × Obj)} {σ:St} {H:Hp} {s:Shared} {E:Value→Shared→Prop} {it:Addr} {fp:List Addr} {tn:Nat→Heap→Prop} {J:It} {Q:VK} {RR:Value→Addr→Result→Shared→Prop} (hc:X.calm=true) (hN:X.N=N) (he:X.env.scope=esc) (B:BlkOk esc scope N fi)
  (hg:∀s H fp,PG (blk X scope (nB N os fi) s H fp) tg g) (ht:∀s H fp,PTs (blk X scope (nB N os fi) s H fp) ifs tt) (hel:∀s H fp,PE (blk X scope (nB N os fi) s H fp) elt te)
  (I:Inv X pins σ H s) (T:Turn X.prog X.w X.K tg J fp it tn) (st:tn 0 s.heap) (hf:∀b∈fp,cX X pins H b) (q:∀l,H l=none→LCr l J g tt te (sB σ os fi) (upd H l (.lst [])) Q)
  (hRR:∀D s3 H3 s' σ' H',Inv X pins σ H3 s3→(∀b∈fp,cX X pins H3 b)→Inv (blk X scope (nB N os fi) s3 H3 fp) [] σ' H' s'→Q (.ref D) H'→RR (.ref D) s3.heap.objs.size (.ok .next) s') :
  wpAny (model X.prog X.w) X.A (newList []) (fun acc s3=>wpAny (model X.prog X.w) X.A (newFunctionEnv scope X.env.globals (gB X.env scope.names []) [] X.env.qual none .none (some X.env)) (fun cenv s4=>
   codeAny (model X.prog X.w) X.A (.compStart (.ListComp elt [⟨tg,iter,ifs,0⟩] scope pos) 0 (.ref it) acc {cenv with scope:=relabel scope X.env}) (RR acc cenv.locals) s4) E s3) E s:=by
 subst hN;have fresh:H s.heap.objs.size=none:=I.hok.fresh (Nat.le_refl _);refine wpAny_newObj_type ?_;have I3:Inv X pins σ (upd H s.heap.objs.size (.lst [])) {s with heap:=s.heap.push {cls:=.type "list",dict:=none,data:=.seq ([]:List Value).toArray}}:=
  I.laid (t':=s.toks) (fun b u e=>Heap.get?_push_of_some _ e) (Nat.le_refl _) ⟨Nat.zero_le _,[],0,.nil,Heap.get?_push_size _ rfl⟩
 have old:∀b∈fp,∃o,s.heap.get? b=some o:=fun b hb=>by
  obtain ⟨o,e,_⟩:=T.obj _ _ st b hb;exact ⟨o,e⟩
 have hf3:∀b∈fp,cX X pins (upd H s.heap.objs.size (.lst [])) b:=fun b hb=>by
  obtain ⟨o,e⟩:=old b hb;exact ⟨by rw [am (Nat.ne_of_lt (Heap.lt_size e))]; exact (hf b hb).1,(hf b hb).2⟩
 have st3:tn 0 (s.heap.push {cls:=.type "list",dict:=none,data:=.seq ([]:List Value).toArray}):=T.keep _ _ _ st fun b hb o e=>Heap.get?_push_of_some _ e;have q3:=q _ fresh;have ho3:∀b∈fp,∃o,(s.heap.push {cls:=.type "list",dict:=none,data:=.seq ([]:List Value).toArray}).get? b=some o:=fun b hb=>by
  obtain ⟨o,e⟩:=old b hb;exact ⟨o,Heap.get?_push_of_some _ e⟩
 have RR3:=hRR s.heap.objs.size {s with heap:=s.heap.push {cls:=.type "list",dict:=none,data:=.seq ([]:List Value).toArray}} (upd H s.heap.objs.size (.lst []));generalize s.heap.objs.size=D at *;generalize upd H D (.lst [])=H3 at *;generalize s.heap.push {cls:=.type "list",dict:=none,data:=.seq ([]:List Value).toArray}=h3 at *;refine wpAny_newFunctionEnv B.nocell (by intro y hy; simp at hy) (fun h4 hn4 sb4=>?_) B.kind;have k4:∀b o,h3.get? b=some o→h4.get? b=some o:=fun b o e=>(sb4.2 b (Nat.ne_of_lt (Heap.lt_size e))).trans (Heap.get?_push_of_some _ e);have I4:=jC (os:=os) (t1:=s.toks + ([]:List (Str × Value)).length) B he I3 hf3 ho3 k4 hn4;have st4:tn 0 h4:=T.keep _ _ _ st3 fun b hb o e=>k4 b o e;obtain ⟨W,⟨m0,w0⟩,turn⟩:=q3;have fpB:∀{H':Hp},(∀b∈fp,H' b=none)→∀b∈fp,cX (blk X scope (nB X.N os fi) {s with heap:=h3} H3 fp) [] H' b:=fun hn b hb=>by
  refine ⟨hn b hb,(I4.ok.exf b hb).1,I4.ok.exfs b hb,.inl hb,(I4.ok.exf b hb).2,fun p hp=>nomatch hp⟩
 have loop:∀s4:Shared,Inv (blk X scope (nB X.N os fi) {s with heap:=h3} H3 fp) [] (sB σ os fi) H3 s4→tn 0 s4.heap→
   codeAny (model X.prog X.w) X.A (.compLoop (.ListComp elt [⟨tg,iter,ifs,0⟩] scope pos) 0 (.ref it) (.ref D) (compEnvC scope (gB X.env scope.names []) h3.objs.size X.env)) (RR (.ref D) h3.objs.size) s4:=by
  intro s4 J4 t4;refine se (fun n s'=>∃i σ' H',Inv (blk X scope (nB X.N os fi) {s with heap:=h3} H3 fp) [] σ' H' s'∧tn i s'.heap∧(∀b∈fp,H' b=none)∧W i n σ' H') ?_ m0 ⟨0,_,_,J4,t4,fun b hb=>(hf3 b hb).1,w0⟩;rintro n s5 ⟨i,σ5,H5,I5,t5,fr5,w5⟩;rcases turn i n σ5 H5 w5 with ⟨stop,qn⟩ | ⟨go,step⟩
  ·refine bV (T.done (blk X scope (nB X.N os fi) {s with heap:=h3} H3 fp) rfl rfl rfl hc i [] s5 σ5 H5 F0 I5 (fpB fr5) t5 stop) fun r s6 ⟨hr,I6⟩=>?_;subst hr;exact RR3 s6 σ5 H5 I3 hf3 I6 qn
  ·refine bV (T.item (blk X scope (nB X.N os fi) {s with heap:=h3} H3 fp) rfl rfl rfl hc i [] s5 σ5 H5 F0 I5 (fpB fr5) t5 go) fun r s6 ⟨u,hr,h6⟩=>?_;subst hr;refine bV h6 fun _ s7 ⟨x,H7,I7,r7,y7,t7,fr7⟩=>?_;have I7':=I7.pinned (fpB fr7) (T.obj _ _ t7);refine bV (hg _ _ _ _ s7 σ5 H7 x u _ I7' r7 (step x H7 y7)) fun _ s8 ⟨σ8,H8,I8,q8⟩=>?_;refine bV (ht _ _ _ _ s8 σ8 H8 _ I8 q8) fun ok s9 ⟨H9,I9,q9⟩=>?_;have again:∀{s':Shared} {H':Hp} {m:Nat},Inv (blk X scope (nB X.N os fi) {s with heap:=h3} H3 fp) ([] ++ i6 fp s7.heap) σ8 H' s'→W (i + 1) m σ8 H'→
     ∃i σ' H',Inv (blk X scope (nB X.N os fi) {s with heap:=h3} H3 fp) [] σ' H' s'∧tn i s'.heap∧(∀b∈fp,H' b=none)∧W i m σ' H':=fun {s' H' m} J w=>by
    refine ⟨i + 1,σ8,H',J.unpinned,T.keep _ _ _ t7 fun b hb o e=>(J.pin (b,o) (List.mem_append_right _ (List.mem_append_right _ (cK hb e)))).1,fun b hb=>?_,w⟩;obtain ⟨o,e,d⟩:=T.obj _ _ t7 b hb;exact (J.pin (b,o) (List.mem_append_right _ (List.mem_append_right _ (cK hb e)))).2.1
   cases ok with
   | false=>
    obtain ⟨m',lt,w9⟩:=(show ∃m',m' < n∧W (i + 1) m' σ8 H9 from q9);exact ⟨m',lt,again I9 w9⟩
   | true=>
    refine bV (hel _ _ _ _ s9 σ8 H9 _ I9 q9) fun y sA ⟨v,HA,IA,rA,xs,hx,hz,m',lt,wA⟩=>?_;refine bV (cP _ sA σ8 HA (.ref D) [v] (.ref D) [y] (fun _ H'=>W (i + 1) m' σ8 H') IA rfl (.cons rA .nil) ⟨D,xs,v,rfl,rfl,hx,hz,wA⟩) fun _ sB' ⟨_,HB,IB,_,wB⟩=>?_;exact ⟨m',lt,again IB wB⟩
 exact codeAny_compStart_list (loop _ I4 st4) (T.self _ 0 _ _ _ st4 (loop _ I4 st4))
theorem wG (hc:X.calm=true) (hN:X.N=N) (he:X.env.scope=esc) (B:BlkOk esc scope N fi) (hi:PI X tg iter wi)
  (hg:∀s H fp,PG (blk X scope (nB N os fi) s H fp) tg g) (ht:∀s H fp,PTs (blk X scope (nB N os fi) s H fp) ifs tt) (hel:∀s H fp,PE (blk X scope (nB N os fi) s H fp) elt te)
  (hs:∀x,foldedSetIterable iter X.env x=pure x:=by intro _; rfl):PE X (.ListComp elt [⟨tg,iter,ifs,0⟩] scope pos) (tLC os fi wi g tt te):=by
 intro pins s σ H Q I h;have cells:=dQ (by rw [hN]; exact B) he I;rw [eval_ListComp];refine wpAny_comprehension_free (use:=none) rfl hs (dY cells) B.kind B.loc (thn (hi pins s σ H _ I h) fun v s1 h1=>thn h1 fun itv s2 h2=>?_);obtain ⟨it,fp,tn,J,H2,rfl,I2,T,st2,f2,q2⟩:=h2;refine lF (RR:=fun acc C=>compPost (model X.prog X.w) X.A X.xe none (EP X pins σ Q) acc C) hc hN he B hg ht hel I2 T st2 f2 q2 ?_;intro D s3 H3 s' σ' H' I3 f3 I' q;obtain ⟨m,hn,_⟩:=I'.loc;exact ⟨m,hn,fun h' sb=>⟨.ref D,H',jD I3 f3 I' sb,rfl,q⟩⟩
theorem wH {i:Nat} {y:Str} {py:Pos} {spos:Pos} (hc:X.calm=true) (hN:X.N=N) (he:X.env.scope=esc) (B:BlkOk esc scope N fi) (hnd:X.N.Nodup) (hy:X.N[i]? = some y) (hl:Loc X.env.scope y) (hi:PI X tg iter wi)
  (hg:∀s H fp,PG (blk X scope (nB N os fi) s H fp) tg g) (ht:∀s H fp,PTs (blk X scope (nB N os fi) s H fp) ifs tt) (hel:∀s H fp,PE (blk X scope (nB N os fi) s H fp) elt te)
  (hsw:swapsWith (.ListComp elt [⟨tg,iter,ifs,0⟩] scope pos) (some (.Name y py)) spos.line X.env=pure true:=by rfl)
  (hfn:X.fn y=true∨X.env.scope.names.lookup y=some .local:=by first | exact .inl rfl | exact .inr rfl | assumption)
  (hs:∀x,foldedSetIterable iter X.env x=pure x:=by intro _; rfl):PS X (.Assign [.Name y py] (.ListComp elt [⟨tg,iter,ifs,0⟩] scope pos) spos) (fun D σ H=>tLC os fi wi g tt te σ H fun v H'=>D.nx (σ.set i (some v)) H'):=by
 intro pins s σ H D I h;have cells:=dQ (by rw [hN]; exact B) he I;rw [exec_Assign_Name_used _ _ _ _ hsw];refine wpAny_bind (wpAny_standAt (wpAny_bind ?_));show wpAny _ _ (do let _ ← comprehension (.ListComp elt [⟨tg,iter,ifs,0⟩] scope pos) scope X.env _ (newList []) false (eval iter X.env) (some (assign (.Name y py) X.env))) _ _ s;refine wpAny_bind (thn (wpAny_comprehension_free (use:=some (assign (.Name y py) X.env)) (Q:=fun _ s'=>SP X pins D .next s') rfl hs (dY cells) B.kind B.loc (thn (hi pins s σ H _ I h) fun v s1 h1=>thn h1 fun itv s2 h2=>?_)) fun _ _ z=>wpAny_pure (wpAny_pure z));obtain ⟨it,fp,tn,J,H2,rfl,I2,T,st2,f2,q2⟩:=h2;refine lF (RR:=fun acc C=>compPost (model X.prog X.w) X.A X.xe (some (assign (.Name y py) X.env)) (fun _ s'=>SP X pins D .next s') acc C) hc hN he B hg ht hel I2 T st2 f2 q2 ?_;intro Dl s3 H3 s' σ' H' I3 f3 I' q;have J':Inv X pins σ H' s':=jD I3 f3 I' (Heap.SameBut.refl ..);show wpAny _ _ (assign (.Name y py) X.env (.ref Dl)) _ _ s';refine wpAny_assign_Name (i5 (v:=.ref Dl) J' hnd hy hl rfl (fun s'' J'' sb=>?_) hfn);obtain ⟨a,sb,ha⟩:=sb;have cL:s3.heap.objs.size≠X.env.locals:=Nat.ne_of_gt I3.lt;have cC:∀x c,X.env.cells.lookup x=some c→c≠s3.heap.objs.size:=fun x c e=>by
  obtain ⟨v,ic⟩:=I3.cell x c e;exact Nat.ne_of_lt ic.lt
 have ca:s3.heap.objs.size≠a:=by
  rcases ha with z | z
  ·rw [z]; exact cL
  ·exact (cC _ _ z).symm
 obtain ⟨m,hn,_⟩:=I'.loc;have hn'':s''.heap.Ns s3.heap.objs.size m:=by
  obtain ⟨o,es,ep,ho,r⟩:=hn;exact ⟨o,es,ep,(sb.2 _ ca).trans ho,r⟩
 refine ⟨m,hn'',fun h' sb'=>⟨σ.set i (some (.ref Dl)),H',?_,q⟩⟩;exact J''.turned (t':=s''.toks) (it:=s3.heap.objs.size) (fun b o hb e=>(sb'.2 b hb).trans e) I'.free cL (.inr I3.sz) cC fun p hp=>Nat.ne_of_lt (Heap.lt_size (I3.pin p hp).1)
end
theorem jd {M:Model} {G:PySem.Ctx} {p:Pos} {t:Sem Fin} {fs:List Frame} {a b:Shared} {e:End} (h:Runs M G p t fs a e b):a.gens.size≤b.gens.size:=by
 induction h <;> (try simp only [Shared.setGen,Array.size_setIfInBounds,Array.size_push] at *) <;> omega
theorem pO {M:Model} {G:PySem.Ctx} {p:Pos} {g:Nat} {r:Resume} {a b:Shared} {x:GenResult} (h:Wakes M G p g r a x b):a.gens.size≤b.gens.size:=by
 have sz:∀(s:Shared) (y:GenState),(s.setGen g y).gens.size=s.gens.size:=fun s y=>by simp [Shared.setGen]
 unfold Wakes at h
 split at h
 ·exact h.elim
 ·split at h
  ·obtain ⟨e,c,q,_,_,rfl⟩:=h;have:=jd q;rw [sz] at this ⊢;exact this
  ·rw [h.2]; first | exact Nat.le_refl _ | (rw [sz]; exact Nat.le_refl _)
  ·rw [h.2]; first | exact Nat.le_refl _ | (rw [sz]; exact Nat.le_refl _)
 ·obtain ⟨e,c,q,_,_,rfl⟩:=h;have:=jd q;rw [sz] at this ⊢;exact this
 ·rw [h.2]; first | exact Nat.le_refl _ | (rw [sz]; exact Nat.le_refl _)
 ·rw [h.2]; first | exact Nat.le_refl _ | (rw [sz]; exact Nat.le_refl _)
theorem wI {α:Type} (M:Model) (G:PySem.Ctx) (k:Nat) (t:Sem α):∀(Q:α→Pos→Shared→Prop) (E:Value→Pos→Shared→Prop) (p:Pos) (a:Shared),k≤a.gens.size→Sem.wp M G t Q E p a→
  Sem.wp M G t (fun x p' b=>k≤b.gens.size∧Q x p' b) (fun e p' b=>k≤b.gens.size∧E e p' b) p a:=by
 induction t with
 | pure _=>intro Q E p a l h; exact ⟨l,h⟩
 | raise _=>intro Q E p a l h; exact ⟨l,h⟩
 | unsupported _=>intro Q E p a _ h; exact h
 | finish _=>intro Q E p a _ h; exact h
 | rule _ _ ih=>intro Q E p a l h; exact ih () Q E p a l h
 | «at» p' _ ih=>intro Q E p a l h; exact ih () Q E p' a l h
 | load _ _ _ ih=>intro Q E p a l h; obtain ⟨o,z,h⟩:=h; exact ⟨o,z,ih o Q E p a l h⟩
 | update _ _ _ _ ih=>intro Q E p a l h; exact ⟨h.1,ih () Q E p _ l h.2⟩
 | loadIfAlive _ _ ih=>intro Q E p a l h; exact ih _ Q E p a l h
 | point _ _ ih=>intro Q E p a l h; exact ih () Q E p a l h
 | register _ _=>intro Q E p a _ h; exact h
 | alloc _ _ ih=>intro Q E p a l h; exact ih _ Q E p _ l h
 | fresh _ ih=>intro Q E p a l h; exact ih _ Q E p _ l h
 | ask _ ih=>intro Q E p a l h; exact ih _ Q E p a l h
 | choose _ _ _ ih=>intro Q E p a l h; exact ⟨h.1,ih _ Q E p _ l h.2⟩
 | os _ _ _ ih=>intro Q E p a l h; exact ih _ Q E p _ l h
 | call _ _ _ _ _ ih=>intro Q E p a l h; obtain ⟨r,b,z,h⟩:=h; exact ⟨r,b,z,ih r Q E p b (Nat.le_trans l (jd z)) h⟩
 | handled _ _ ih=>intro Q E p a l h; exact ih _ Q E p a l h
 | genState _ _ ih=>intro Q E p a l h; obtain ⟨x,z,h⟩:=h; exact ⟨x,z,ih _ Q E p a l h⟩
 | newGen _ _ ih=>intro Q E p a l h; exact ih _ Q E p _ (by simp only [Array.size_push]; omega) h
 | resume _ _ _ _ ih=>intro Q E p a l h; obtain ⟨r,b,z,h⟩:=h; exact ⟨r,b,z,ih r Q E p b (Nat.le_trans l (pO z)) h⟩
 | yield _ _ _ _=>intro Q E p a _ h; exact h
 | stack _ ih=>intro Q E p a l h; exact ih _ Q E p a l h
 | fork _ _=>intro Q E p a _ h; exact h
 | thread _ ih=>intro Q E p a l h; exact ih _ Q E p a l h
 | await _ _ _ _ _=>intro Q E p a _ h; exact h
theorem ur {α:Type} {M:Model} {A:Around} {t:Sem α} {Q:α→Shared→Prop} {E:Value→Shared→Prop} {a:Shared} {k:Nat} (l:k≤a.gens.size) (h:wpAny M A t Q E a) :
  wpAny M A t (fun x b=>k≤b.gens.size∧Q x b) (fun e b=>k≤b.gens.size∧E e b) a:=fun G p hG=>wI M G k t _ _ p a l (h G p hG)
def gA (A:Around) (e:Env):Around:=⟨A.handled,A.depth + 1,A.frames.map (e :: ·),A.guards,A.units + 3⟩
abbrev gE (X:Cx) (scope:Scope) (code:Value) (s:Shared):Env:=genEnv scope (gB X.env scope.names []) s.heap.objs.size code builtinsNs X.env
def jw (X:Cx) (scope:Scope) (N:List Str) (code:Value) (s:Shared) (H:Hp) (fp:List Addr):Cx:=
 {X with A:=gA X.A.in1.in1 (gE X scope code s),N:=N,s₀:=s,H₀:=H,env:=gE X scope code s,outer:=X.stack,stack:=gE X scope code s :: X.stack,ex:=fp,fn:=fun _=>false,pn:=[],xe:=fun _ _=>False}
section
variable {X:Cx} {pins:List (Addr × Obj)} {σ:St} {H:Hp} {s:Shared} {scope esc:Scope} {os:List Str} {fi:List Nat} {fp:List Addr} {code:Value}
theorem wJ (B:BlkOk esc scope X.N fi) (he:X.env.scope=esc) (I:Inv X pins σ H s) (hf:∀b∈fp,cX X pins H b) (ho:∀b∈fp,∃o,s.heap.get? b=some o):(jw X scope (nB X.N os fi) code s H fp).Ok where
 mod:=I.ok.mod
 kind:=B.kind
 glob:=I.ok.glob
 blt:=rfl
 above:=Nat.le_refl _
 inj:=fun x y c h1 h2=>I.ok.inj x y c (fw B he I h1) (fw B he I h2)
 has:=fun x h=>by
  rcases h with h | h
  ·exact absurd rfl (B.nocell _ (ci h))
  ·exact ⟨_,iJ (ci h)⟩
 cab:=fun x c h _=>nomatch h
 hd:=I.ok.hd
 frames:=by
  show (X.A.in1.in1.frames).map (gE X scope code s :: ·)=_;rw [show X.A.in1.in1.frames=X.A.frames from rfl,I.ok.frames];rfl
 stk:=.inr ⟨rfl,rfl⟩
 exf:=fun b hb=>by
  obtain ⟨o,e⟩:=ho b hb;exact ⟨Nat.ne_of_lt (Heap.lt_size e),fun x c h=>(hf b hb).2.2.2.2.1 x c (fw B he I h)⟩
 bs:=I.bs
 bsz:=Nat.le_trans I.ok.bsz I.sz
 noex:=(pN (os:=os) B he I hf ho).noex
 exfs:=(pN (os:=os) B he I hf ho).exfs
 funs:=I.stack
 frf:=I.stkFree
theorem ut {h1:Heap} {t1:Nat} {g1:Array GenState} {m1:Str→Option Value} (B:BlkOk esc scope X.N fi) (he:X.env.scope=esc) (I:Inv X pins σ H s) (hf:∀b∈fp,cX X pins H b) (ho:∀b∈fp,∃o,s.heap.get? b=some o)
  (k:∀b o,s.heap.get? b=some o→h1.get? b=some o) (hn:h1.Ns s.heap.objs.size m1) (hb:AllBare g1):Inv (jw X scope (nB X.N os fi) code s H fp) [] (sB σ os fi) H {s with heap:=h1,toks:=t1,gens:=g1} where
 ok:=wJ B he I hf ho
 os:=rfl
 bare:=hb
 base:=Un.kept k
 loc:=by
  obtain ⟨m,hm,hl⟩:=(jC (os:=os) (t1:=t1) B he I hf ho k hn).loc;refine ⟨m1,hn,fun j x v e1 e2 e3=>?_⟩;have e3':Vis (relabel scope X.env) x:=by
   rcases e3 with e3 | e3 | e3
   ·exact .inl (lookup_relabel_local e3)
   ·exact absurd rfl (B.nocell _ (ci e3))
   ·rcases cZ (env:=X.env) e3 with z | z
    ·exact .inr (.inl z)
    ·exact .inr (.inr z)
  obtain ⟨u,r,l⟩:=hl j x v e1 e2 e3';refine ⟨u,r,?_⟩;have kx:scope.names.lookup x=some .free:=by
   rcases e3 with e3 | e3 | e3
   ·have hj:os.length≤j:=by
     by_cases hj:j < os.length
     ·have z:(sB σ os fi)[j]? = some (some v):=e2;unfold sB at z;rw [List.getElem?_append_left (by simpa using hj),List.getElem?_map] at z;cases q:os[j]? with
      | none=>rw [q] at z; cases z
      | some _=>rw [q] at z; cases z
     ·omega
    have z1:(nB X.N os fi)[j]? = some x:=e1;unfold nB at z1;rw [List.getElem?_append_right hj,List.getElem?_map] at z1;cases q:fi[j - os.length]? with
    | none=>rw [q] at z1; cases z1
    | some i=>
     rw [q] at z1;have w1:X.N.getD i "" = x:=Option.some.inj z1;rw [← w1];exact B.ix i (List.mem_of_getElem? q)
   ·exact absurd rfl (B.nocell _ (ci e3))
   ·exact e3
  rcases l with ⟨a,_⟩ | ⟨_,c,e,ic⟩
  ·have a':(relabel scope X.env).names.lookup x=some .local:=a;rcases cZ (env:=X.env) kx with z | z
   ·have z':(relabel scope X.env).names.lookup x=some .cell:=z;rw [z'] at a'; cases a'
   ·have z':(relabel scope X.env).names.lookup x=some .free:=z;rw [z'] at a'; cases a'
  ·exact .inr ⟨.inr kx,c,e,ic⟩
 cell:=(jC (os:=os) (t1:=t1) B he I hf ho k hn).cell
 free:=I.hok.fresh (Nat.le_refl _)
 freeC:=fun x c h=>I.freeC x c (fw B he I h)
 pin:=fun p hp=>nomatch hp
 hok:=I.hok.kept k
 len:=by
  show (sB σ os fi).length=(nB X.N os fi).length;unfold sB nB;simp
theorem om {N:List Str} {s':Shared} {H':Hp} {σ':St} {pins':List (Addr × Obj)} {h':Heap} {g':Array GenState} (I:Inv X pins σ H s) (hf:∀b∈fp,cX X pins H b) (I':Inv (jw X scope N code s H fp) pins' σ' H' s')
  (k:∀b o,s'.heap.get? b=some o→h'.get? b=some o) (hb:AllBare g'):Inv X pins σ H' {s' with heap:=h',gens:=g'}:=by
 have un:Un (frs X.stack) fp H H' s.heap h':=by
  have u:Un (frs X.stack) fp H H' s.heap s'.heap:=I'.base;exact ⟨fun b o e n hb hx=>k b o (u.keep b o e n hb hx),fun b o e n hb hx=>by
    obtain ⟨sl,q⟩:=u.slot b o e n hb hx;exact ⟨sl,k b _ q⟩,u.free,fun b o e hx=>by
    obtain ⟨o',q⟩:=u.there b o e hx;exact ⟨o',k b o' q⟩,u.tups,u.frzs,u.tbls⟩
 have hok:HOk X.prog X.w H' h':=I'.hok.kept k;obtain ⟨hh,g,d,t,os'⟩:=s';obtain rfl:os'=s.os:=I'.os;have J:=I.call (h':=h') (g':=g') (d':=d) (t':=t) (ch:=fp) un hok hb fun b hb=>⟨(hf b hb).2.2.2.1,(hf b hb).2.1,(hf b hb).2.2.2.2.1,(hf b hb).2.2.2.2.2⟩;exact J
end
theorem jT {a:Array GenState} {g:Nat} {y:GenState} (h:AllBare a) (hy:y.bare=true):AllBare (a.setIfInBounds g y):=fun z hz=>by
 obtain ⟨i,hi,rfl⟩:=Array.mem_iff_getElem.mp hz;have hi':i < a.size:=by simpa using hi
 rw [Array.getElem_setIfInBounds hi']
 split
 ·exact hy
 ·exact h _ (Array.getElem_mem _)
theorem jq {s:Shared} {g:Nat} {y:GenState}:(s.setGen g y).gens.size=s.gens.size:=by simp [Shared.setGen]
theorem pP {s:Shared} {g:Nat} {y:GenState} (h:g < s.gens.size):(s.setGen g y).gens[g]? = some y:=by simp [Shared.setGen,h]
theorem pQ {s:Shared} {g:Nat} {x y:GenState}:(s.setGen g x).setGen g y=s.setGen g y:=by
 simp [Shared.setGen]
theorem Inv.gens {X:Cx} {pins:List (Addr × Obj)} {σ:St} {H:Hp} {s:Shared} {g:Array GenState} (I:Inv X pins σ H s) (h:AllBare g):Inv X pins σ H {s with gens:=g}:=
 ⟨I.ok,I.os,h,I.base,I.loc,I.cell,I.free,I.freeC,I.pin,I.hok,I.len⟩
theorem Inv.setGen {X:Cx} {pins:List (Addr × Obj)} {σ:St} {H:Hp} {s:Shared} {g:Nat} {y:GenState} (I:Inv X pins σ H s) (h:y.bare=true):Inv X pins σ H (s.setGen g y):=I.gens (jT I.bare h)
def GLr (J:It) (g:TG) (te:TE) (σb:St) (H:Hp) (Q:VK):Prop:=∃W:Nat→Nat→St→Hp→Prop,(∃m,W 0 m σb H)∧∀i m σ2 H2,W i m σ2 H2→
 (J.stop i H2∧Q (.bl true) H2)∨(J.go i H2∧∀x H3,J.yld i H2 x H3→g x σ2 H3 fun σ4 H4=>te σ4 H4 fun v H5=>∃b,v = .bl b∧if b=true then ∃m',m' < m∧W (i + 1) m' σ4 H5 else Q (.bl false) H5)
def gR (Y:Cx) (ps:List (Addr × Obj)) (Q:VK):Nat→Shared→Shared→Prop:=fun _ _ s=>∃σ H,Inv Y ps σ H s∧Q (.bl true) H
def gY (Y:Cx) (ps:List (Addr × Obj)) (g:Nat) (Q:VK):Protocol:=fun _ _ v s kap=>∃b,v = .bool b∧g < s.gens.size∧∃σ H,Inv Y ps σ H s∧if b=true then kap (.send .none) (s.setGen g .running) else Q (.bl false) H
section
variable {X Y:Cx} {tg iter elt:Expr} {scope:Scope} {pos:Pos} {g:TG} {te:TE} {it:Addr} {fp:List Addr} {tn:Nat→Heap→Prop} {J:It} {Q:VK} {gn:Nat} {ps:List (Addr × Obj)} {W:Nat→Nat→St→Hp→Prop}
theorem wK (hY:Y.A=gA X.A.in1.in1 Y.env) (hx:Y.xe=F0) (hc:Y.calm=true) (hco:Y.env.scope.isCoroutine=false) (hg:PG Y tg g) (hel:PE Y elt te) (T:Turn Y.prog Y.w Y.K tg J fp it tn)
  (stat:∀{H:Hp},(∀b∈fp,H b=none)→∀b∈fp,cX Y ps H b)
  (turn:∀i m σ2 H2,W i m σ2 H2→(J.stop i H2∧Q (.bl true) H2)∨(J.go i H2∧∀x H3,J.yld i H2 x H3→g x σ2 H3 fun σ4 H4=>te σ4 H4 fun v H5=>∃b,v = .bl b∧if b=true then ∃m',m' < m∧W (i + 1) m' σ4 H5 else Q (.bl false) H5)) :
  ∀(n m i:Nat) (σ:St) (H:Hp) (s₀ s:Shared),m < n→gn < s.gens.size→Inv Y ps σ H s→tn i s.heap→(∀b∈fp,H b=none)→W i m σ H→
   Seg (model Y.prog Y.w) X.A.in1.in1 (fun n s₀ r s₁=>r = .ok .next∧gR Y ps Q n s₀ s₁) (gY Y ps gn Q) n s₀ (.compLoop (.GeneratorExp elt [⟨tg,iter,[],0⟩] scope pos) 0 (.ref it) .none Y.env)
    ((model Y.prog Y.w).den (.compLoop (.GeneratorExp elt [⟨tg,iter,[],0⟩] scope pos) 0 (.ref it) .none Y.env)) [] s:=by
 have up:∀{α:Type} {t:Sem α} {P P':α→Shared→Prop} {E:Value→Shared→Prop} {s:Shared} {k:Nat},k < s.gens.size→wpAny (model Y.prog Y.w) Y.A t P Y.xe s→(∀a s',k < s'.gens.size→P a s'→P' a s')→
   wpAny (model Y.prog Y.w) (X.A.in1.in1.over (.compLoop (.GeneratorExp elt [⟨tg,iter,[],0⟩] scope pos) 0 (.ref it) .none Y.env) []) t P' E s:=fun {α t P P' E s k} l h f=>by
  rw [hY,hx] at h;exact wpAny_mono (ur (k:=k + 1) l h) (fun a s' z=>f a s' z.1 z.2) fun _ _ z=>z.2.elim
 intro n
 induction n with
 | zero=>intro m i σ H s₀ s lt; omega
 | succ n ih=>
  intro m i σ H s₀ s lt lg I t0 fr w;show Seg _ _ _ _ _ s₀ _ ((compTurn (.GeneratorExp elt [⟨tg,iter,[],0⟩] scope pos) 0 (.ref it) .none Y.env).onRaise (leaving Y.env)) [] s;rw [compTurn_gen,Sem.onRaise_eq_wrap];refine seg_bind_wrap (wpAny_standAt ?_);rcases turn i m σ H w with ⟨stop,q⟩ | ⟨go,step⟩
  ·refine seg_bind_wrap (up lg (T.done Y rfl rfl rfl hc i ps s σ H Y.xe I (stat fr) t0 stop) fun r s1 _ ⟨hr,I1⟩=>?_);subst hr;exact seg_end (.ok .next) ⟨rfl,σ,H,I1,q⟩
  ·refine seg_bind_wrap (up lg (T.item Y rfl rfl rfl hc i ps s σ H Y.xe I (stat fr) t0 go) fun r s1 l1 ⟨u,hr,h1⟩=>?_);subst hr;refine seg_bind_wrap (up l1 h1 fun _ s2 l2 ⟨x,H2,I2,r2,y2,t2,fr2⟩=>?_);have I2':=I2.pinned (stat fr2) (T.obj _ _ t2);refine seg_bind_wrap (up l2 (hg _ s2 σ H2 x u _ I2' r2 (step x H2 y2)) fun _ s3 l3 ⟨σ3,H3,I3,q3⟩=>?_);refine seg_bind_wrap (wpAny_pure ?_);simp only [if_true];have hy:∀v,yieldOut Y.env v=yieldValue v:=fun v=>by simp only [yieldOut,hco,Bool.false_eq_true,if_false]
   simp only [hy];rw [Sem.bind_eq_wrap',Sem.bind_eq_wrap',Sem.wrap_wrap,Sem.wrap_wrap];refine seg_wrap (up l3 (hel _ s3 σ3 H3 _ I3 q3) fun y s4 l4 ⟨v,H4,I4,r4,b,hv,q4⟩=>?_);subst hv;obtain rfl:y=Value.bool b:=r4;refine seg_at (seg_yield rfl rfl rfl ⟨b,rfl,l4,σ3,H4,I4.unpinned,?_⟩);cases b with
   | false=>exact q4
   | true=>
    obtain ⟨m',lt',w'⟩:=(show ∃m',m' < m∧W (i + 1) m' σ3 H4 from q4);have t4:tn (i + 1) s4.heap:=T.keep _ _ _ t2 fun b hb o e=>(I4.pin (b,o) (List.mem_append_right _ (List.mem_append_right _ (cK hb e)))).1;have fr4:∀b∈fp,H4 b=none:=fun b hb=>by
     obtain ⟨o,e,d⟩:=T.obj _ _ t2 b hb;exact (I4.pin (b,o) (List.mem_append_right _ (List.mem_append_right _ (cK hb e)))).2.1
    exact seg_again rfl (ih m' (i + 1) σ3 H4 _ _ (by omega) (by rw [jq]; exact l4) (I4.unpinned.setGen rfl) t4 fr4 w')
theorem uu (hY:Y.A=gA X.A.in1.in1 Y.env) (hx:Y.xe=F0) (T:Turn Y.prog Y.w Y.K tg J fp it tn) {n:Nat} {s₀ s:Shared} {R:GenEnd} {P:Protocol} (t0:tn 0 s.heap)
  (h:Seg (model Y.prog Y.w) X.A.in1.in1 R P n s₀ (.compLoop (.GeneratorExp elt [⟨tg,iter,[],0⟩] scope pos) 0 (.ref it) .none Y.env)
    ((model Y.prog Y.w).den (.compLoop (.GeneratorExp elt [⟨tg,iter,[],0⟩] scope pos) 0 (.ref it) .none Y.env)) [] s) :
  Seg (model Y.prog Y.w) X.A.in1.in1 R P n s₀ (.compStart (.GeneratorExp elt [⟨tg,iter,[],0⟩] scope pos) 0 (.ref it) .none Y.env)
    ((model Y.prog Y.w).den (.compStart (.GeneratorExp elt [⟨tg,iter,[],0⟩] scope pos) 0 (.ref it) .none Y.env)) [] s:=by
 show Seg _ _ _ _ _ s₀ _ ((compStart (.GeneratorExp elt [⟨tg,iter,[],0⟩] scope pos) 0 (.ref it) .none Y.env).onRaise (leaving Y.env)) [] s;unfold compStart;rw [Sem.onRaise_eq_wrap];show Seg _ _ _ _ _ s₀ _ ((ask >>= _).wrap _ _ _ _) [] s;refine seg_bind_wrap (wpAny_askSetting ?_)
 split
 ·exact seg_again rfl h
 ·refine seg_bind_wrap (wpAny_rule ?_);show Seg _ _ _ _ _ s₀ _ ((standAt iter.pos >>= _).wrap _ _ _ _) [] s;exact seg_bind_wrap (wpAny_standAt (seg_bind_wrap (T.self _ 0 s _ _ t0 (seg_again rfl h))))
theorem all_gen {pins:List (Addr × Obj)} {σ:St} {a:Addr} {oa:Obj} {E:Value→Shared→Prop} {RR:Result→Shared→Prop} (hh:X.A.handled=none) (hroom:X.A.depth < recursionLimit) (hpa:(a,oa)∈ps) (hga:∀h:Heap,h.get? a=some oa→h.IsGen a gn)
  (ht:∀(s:Shared) (h':Heap) (y:GenState) (σ':St) (H':Hp),Inv Y ps σ' H' s→(∀b o,s.heap.get? b=some o→h'.get? b=some o)→y.bare=true→Q (.bl true) H'→RR (.ok (.ret (.bool true))) {s.setGen gn y with heap:=h'})
  (hf:∀(s:Shared) (y:GenState) (σ':St) (H':Hp),Inv Y ps σ' H' s→y.bare=true→Q (.bl false) H'→RR (.ok (.ret (.bool false))) (s.setGen gn y)) :
  ∀(n:Nat) (gs:GenState) (s:Shared),s.heap.IsGen a gn→s.heap.NoLimit→s.gens[gn]? = some gs→
   gs.Goes (model Y.prog Y.w) X.A.in1.in1 (fun n s₀ r s₁=>r = .ok .next∧gR Y ps Q n s₀ s₁) (gY Y ps gn Q) n (.send .none) (s.setGen gn .running)→
   codeAny (model Y.prog Y.w) X.A (.builtin "all.loop" ⟨[.ref a],[]⟩) RR s:=by
 intro n
 induction n with
 | zero=>
  intro gs s hg hl hgs go;refine codeAny_builtin F.entry_all_loop ?_;rw [Around.under_plainId F.plain_all_loop _];show wpAny _ X.A.in1 (pyNext (.ref a) >>= _) _ _ s;refine wpAny_bind (wpAny_pyNext_genexpQ (P:=gR Y ps Q) hh hl hroom hg hgs go (fun v s1 gs' hb hv=>?_) (fun s1 hp h' hk=>?_))
  ·obtain ⟨b,rfl,lt,σ',H',I',q⟩:=hv;refine wpAny_bind (wpAny_holding (wpAny_truthy_bool ?_));refine wpAny_bind (wpAny_letGo ?_);cases b with
   | true=>exact False.elim q
   | false=>
    simp only [Bool.false_eq_true,if_false];exact wpAny_bind (wpAny_rule (wpAny_pure (hf s1 gs' σ' H' I' hb q)))
  ·obtain ⟨σ',H',I',q⟩:=hp;exact wpAny_bind (wpAny_rule (wpAny_pure (ht s1 h' .finished σ' H' I' hk rfl q)))
 | succ n ih=>
  intro gs s hg hl hgs go;refine codeAny_builtin F.entry_all_loop ?_;rw [Around.under_plainId F.plain_all_loop _];show wpAny _ X.A.in1 (pyNext (.ref a) >>= _) _ _ s;refine wpAny_bind (wpAny_pyNext_genexpQ (P:=gR Y ps Q) hh hl hroom hg hgs go (fun v s1 gs' hb hv=>?_) (fun s1 hp h' hk=>?_))
  ·obtain ⟨b,rfl,lt,σ',H',I',q⟩:=hv;refine wpAny_bind (wpAny_holding (wpAny_truthy_bool ?_));refine wpAny_bind (wpAny_letGo ?_);cases b with
   | true=>
    simp only [if_true];refine wpAny_pure ⟨plainId_quiet F.plain_all_loop _,ih gs' _ (hga _ (I'.pin _ (List.mem_append_right _ hpa)).1) I'.nolimit (pP lt) ?_⟩;rw [pQ];exact q
   | false=>
    simp only [Bool.false_eq_true,if_false];exact wpAny_bind (wpAny_rule (wpAny_pure (hf s1 gs' σ' H' I' hb q)))
  ·obtain ⟨σ',H',I',q⟩:=hp;exact wpAny_bind (wpAny_rule (wpAny_pure (ht s1 h' .finished σ' H' I' hk rfl q)))
end
structure CodeK (K:PySem.W.Frag) (c P:Addr):Prop where
 ex:∃(o:Obj) (vs:Array Value) (file:Str) (tf:Tok) (flags:Int) (tk:Tok) (inF:Bool) (text:Int) (tt:Tok),K.lookup c=some o∧o.cls = .type "code"∧o.data = .fields vs∧vs[11]? = some (.ref P)∧vs.getD 18 .none = .str file tf∧
  vs.getD 7 .none = .int flags tk∧vs.getD 9 .none = .bool inF∧vs.getD 10 .none = .int text tt
 ne:c≠P
structure BmK (X:Cx):Prop where
 ex:∃(bm:Addr) (ob:Obj),X.mg "__builtins__" = some (.ref bm)∧bm≠builtinsNs∧X.base.get? bm=some ob∧ob.cls = .type "module"∧ob.dict=some builtinsNs∧ob.data = .plain
theorem oo {H:Hp} {p:Addr} {o:HO} (h:H p=some o):upd H p o=H:=by
 funext b
 by_cases e:b=p
 ·subst e; rw [ai,h]
 ·rw [am e]
section
variable {X:Cx} {pins:List (Addr × Obj)} {σ:St} {H:Hp} {s:Shared} {c P:Addr}
theorem uv {E:Value→Shared→Prop} {pos:Pos} {qn:Str} {scope:Scope} {ps:Array Value} (I:Inv X pins σ H s) (hc:X.env.code = .ref c) (C:CodeK X.K c P) (hP:H P=some (.tbl ps)) (tr:TriplesOk ps.toList) :
  wpAny (model X.prog X.w) X.A (genexprCode X.env pos qn scope) (fun code s'=>∃ps',TriplesOk ps'.toList∧Inv X pins σ (upd H P (.tbl ps')) s'∧(∀b o,b≠P→s.heap.get? b=some o→s'.heap.get? b=some o)) E s:=by
 obtain ⟨o,vs,file,tf,flags,tk,inF,text,tt,lk,cl,d,h11,h18,h7,h9,h10⟩:=C.ex;have ho:=I.kIn c o lk;have hp:s.heap.get? P=some {cls:=.none,data:=.fields ps}:=I.hok P _ hP;have g11:vs.getD 11 .none = .ref P:=by
  rw [Array.getD_eq_getD_getElem?,h11]; rfl
 have hok:s.heap.IsCode c P ps:=⟨o,vs,file,tf,flags,tk,inF,text,tt,_,ho,d,g11,h18,h7,h9,h10,hp,rfl,tr,C.ne⟩;have htab:s.heap.TableAt c P ps:=⟨⟨o,vs,ho,cl,d,h11⟩,hp⟩;cases hnf:codeAmong pos ps.toList with
 | some c'=>exact wpAny_genexprCode_hit hc hok hnf ⟨ps,tr,by rw [oo hP]; exact I,fun b o _ e=>e⟩
 | none=>
  refine wpAny_genexprCodeX hc hok htab hnf fun c' h' tk ext _ _ _ _ tab _=>?_;have tr':TriplesOk (ps ++ #[rawInt pos.line,rawInt pos.col,.ref c']).toList:=by
   rw [Array.toList_append];exact TriplesOk_snoc _ _ _ _ tr
  refine ⟨_,tr',?_,fun b o hb e=>ext b o hb e⟩;have ne:∀b,H b=none→b≠P:=fun b n z=>by rw [z,hP] at n; cases n
  have neT:∀b u,H b=some u→(∀q,u≠.tbl q)→b≠P:=fun b u e n z=>by rw [z,hP] at e; cases e; exact n _ rfl
  refine I.un (t':=tk) ⟨fun b o e n _ _=>ext b o (ne b n) e,fun b o e n _ _=>⟨o.slots,ext b o (ne b n) e⟩,fun b o e n _=>by rw [am (ne b n)]; exact n,fun b o e _=>?_,fun b xs e=>by rw [am (neT b _ e fun _ z=>nomatch z)]; exact e,
   fun b o u e=>by rw [am (neT b _ e fun _ z=>nomatch z)]; exact e,fun b qs e=>?_⟩ fun b u e=>?_
  ·by_cases hb:b=P
   ·subst hb; exact ⟨_,tab.2⟩
   ·exact ⟨o,ext b o hb e⟩
  ·by_cases hb:b=P
   ·subst hb;rw [hP] at e; cases e;exact ⟨_,ai⟩
   ·exact ⟨#[],by rw [am hb,e]; simp⟩
  ·by_cases hb:b=P
   ·subst hb;rw [ai] at e; cases e;exact tab.2
   ·rw [am hb] at e;refine (I.hok b u e).stay (fun d v hd q=>ext d v ?_ q) (fun d q=>by rw [am (neT d _ q fun _ z=>nomatch z)]; exact q) fun d xs q=>by rw [am (neT d _ q fun _ z=>nomatch z)]; exact q
    rcases hd with z | z
    ·rw [z]; exact hb
    ·exact neT d _ z fun _ y=>nomatch y
end
def Ae (P:Addr) (os:List Str) (fi:List Nat) (wi:TI) (g:TG) (te:TE):TE:=fun σ H Q=>wi σ H fun J H1=>∃ps,H1 P=some (.tbl ps)∧TriplesOk ps.toList∧∀ps',TriplesOk ps'.toList→GLr J g te (sB σ os fi) (upd H1 P (.tbl ps')) Q
theorem Room.gen {k:Nat} {A:Around} {e:Env} (r:Room (k + 1) A):Room k (gA A.in1.in1 e):=
 ⟨r.hd,by have:=r.dp; show A.depth + 1 + 3 * k + 5 < _; omega,by have:=r.un; show A.units + 1 + 1 + 3 + 16 * k + 200 < _; omega⟩
section
variable {X:Cx} {tg iter elt:Expr} {scope esc:Scope} {pos gpos p:Pos} {N os:List Str} {fi:List Nat} {wi:TI} {g:TG} {te:TE} {c P:Addr} {k:Nat}
theorem yR (hc:X.calm=true) (hr:Room k X.A) (hgl:Gl X "all") (hm:X.mg "all" = none) (hcd:X.env.code = .ref c) (CK:CodeK X.K c P) (BM:BmK X) (hN:X.N=N) (he:X.env.scope=esc) (B:BlkOk esc scope N fi) (hco:scope.isCoroutine=false) (h0:scope.names.lookup (".0" : Str)=some NameKind.local) (hi:PI X tg iter wi)
  (hg:∀code s H fp,PG (jw X scope (nB N os fi) code s H fp) tg g) (hel:∀code s H fp,PE (jw X scope (nB N os fi) code s H fp) elt te)
  (hs:∀x,genFold iter X.env x=pure x:=by intro _; rfl):PE X (.Call (.Name "all" p) [.GeneratorExp elt [⟨tg,iter,[],0⟩] scope gpos] [] pos) (Ae P os fi wi g te):=by
 intro pins s σ H Q I h;subst hN;have cells:=dQ B he I;have hroom:X.A.depth < recursionLimit:=by have:=hr.dp; omega
 refine wpAny_Call_Name_kw (eO I hgl hm boot_all ?_);refine PyProof.Rows.callWith_builtin1 ?_ rfl rfl;show wpAny _ _ (spliced ((false,eval (.GeneratorExp elt [⟨tg,iter,[],0⟩] scope gpos) X.env) :: backTo pos (starEach [] X.env))) _ _ s;refine Calls.spliced_cons (wpAny_GeneratorExp_make hco (dY cells) B.nocell h0 B.kind hroom (thn (hi pins s σ H _ I h) fun v s1 h1=>thn h1 fun itv s2 h2=>?_) hs);obtain ⟨it,fp,tn,J,H2,rfl,I2,T,st2,f2,qs,hP,tr,q2⟩:=h2;refine ⟨I2.nolimit,thn (uv I2 hcd CK hP tr) fun code s3 ⟨qs',tr',I3,k3⟩=>?_⟩;obtain ⟨bm,ob,b1,b2,b3,b4,b5,b6⟩:=BM.ex;refine wpAny_builtinsFor (by rw [I3.ok.glob]; exact I3.mod.glob.keeps I3.bk) b1 b2 (I3.bk _ _ b3) b4 b5 b6 ?_;intro h4 hn4 sb4;refine Calls.spliced_nil ?_;have q3:=q2 qs' tr';have fpP:∀b∈fp,b≠P:=fun b hb z=>by
  have:=(f2 b hb).1;rw [z,hP] at this; cases this
 have f3:∀b∈fp,cX X pins (upd H2 P (.tbl qs')) b:=fun b hb=>⟨by rw [am (fpP b hb)]; exact (f2 b hb).1,(f2 b hb).2⟩;have st3:tn 0 s3.heap:=T.keep _ _ _ st2 fun b hb o e=>k3 b o (fpP b hb) e;generalize upd H2 P (.tbl qs')=H3 at *;have k4:∀b o,s3.heap.get? b=some o→h4.get? b=some o:=fun b o e=>(sb4.2 b (Nat.ne_of_lt (Heap.lt_size e))).trans (Heap.get?_push_of_some _ e);have ho3:∀b∈fp,∃o,s3.heap.get? b=some o:=fun b hb=>by
  obtain ⟨o,e,_⟩:=T.obj _ _ st3 b hb;exact ⟨o,e⟩
 have sz4:s3.heap.objs.size < h4.objs.size:=hn4.lt;obtain ⟨oa,hoa⟩:∃oa:Obj,oa = {cls:=.type "generator",data:=.fields #[.int s3.gens.size 0,.str "<genexpr>" (s3.toks + 1),.str (X.env.qual ++ "<genexpr>") (s3.toks + 1 + 1)]}:=⟨_,rfl⟩;rw [← hoa];have ga:(h4.push oa).get? h4.objs.size=some oa:=Heap.get?_push_size _ (by rw [hoa]; rfl);have isg:∀h:Heap,h.get? h4.objs.size=some oa→h.IsGen h4.objs.size s3.gens.size:=fun h e=>⟨oa,_,_,e,by rw [hoa],by rw [hoa],by rw [hoa]⟩;have hn5:(h4.push oa).Ns s3.heap.objs.size (fun y=>if y = ".0" then some (Value.ref it) else none):=hn4.keeps fun b o e=>Heap.get?_push_of_some _ e;have k5:∀b o,s3.heap.get? b=some o→(h4.push oa).get? b=some o:=fun b o e=>Heap.get?_push_of_some _ (k4 b o e);have cde:∃gc:GenState,gc = .fresh (.compStart (.GeneratorExp elt [⟨tg,iter,[],0⟩] scope gpos) 0 (.ref it) .none (gE X scope code s3)):=⟨_,rfl⟩;obtain ⟨gc,hgc⟩:=cde;show wpAny _ _ (call (.builtin "all") [.ref h4.objs.size]) _ _ {s3 with gens:=s3.gens.push (.fresh (.compStart (.GeneratorExp elt [⟨tg,iter,[],0⟩] scope gpos) 0 (.ref it) .none (gE X scope code s3))),toks:=s3.toks + 1 + 1 + 1,heap:=h4.push oa};rw [← hgc];have bare5:AllBare (s3.gens.push gc):=I3.bare.push (by rw [hgc]; rfl);obtain ⟨W,⟨m0,w0⟩,turn⟩:=q3;refine call_function_tree F.kind_all F.plain_all F.entry_all (F.args_all1 _) ?_;unfold Builtin.«all»;refine wpAny_bind (m:=oneArg "all" _) (wpAny_pure ?_);refine wpAny_bind (wpAny_pyIter_gen (isg _ ga) ?_);refine wpAny_pure ⟨plainId_quiet F.plain_all_loop _,?_⟩;have IY:Inv (jw X scope (nB X.N os fi) code s3 H3 fp) [(h4.objs.size,oa)] (sB σ os fi) H3 (({s3 with gens:=s3.gens.push gc,toks:=s3.toks + 1 + 1 + 1,heap:=h4.push oa}:Shared).setGen s3.gens.size .running):=by
  have J0:=ut (os:=os) (code:=code) (t1:=s3.toks + 1 + 1 + 1) B he I3 f3 ho3 k5 hn5 bare5;refine (J0.pins_of fun p hp=>?_).setGen rfl;obtain rfl:=List.mem_singleton.mp hp;refine ⟨ga,I3.hok.fresh (Nat.le_of_lt sz4),Nat.ne_of_gt sz4,fun z=>?_,fun v=>by rw [hoa]; exact fun z=>nomatch z⟩;have z':h4.objs.size∈frs X.stack:=z;rcases List.mem_cons.mp (I3.stkSub _ z') with e | e
  ·exact absurd (Nat.lt_trans I3.lt sz4) (by rw [e]; exact Nat.lt_irrefl _)
  ·exact I3.nofs (Nat.le_of_lt sz4) e
 have stat:∀{H':Hp},(∀b∈fp,H' b=none)→∀b∈fp,cX (jw X scope (nB X.N os fi) code s3 H3 fp) [(h4.objs.size,oa)] H' b:=fun hn b hb=>by
  refine ⟨hn b hb,(IY.ok.exf b hb).1,IY.ok.exfs b hb,.inl hb,(IY.ok.exf b hb).2,fun p hp=>?_⟩;obtain rfl:=List.mem_singleton.mp hp;obtain ⟨o,e⟩:=ho3 b hb;exact Nat.ne_of_gt (Nat.lt_trans (Heap.lt_size e) sz4)
 have lg:s3.gens.size < (s3.gens.push gc).size:=by rw [Array.size_push]; omega
 refine all_gen (X:=X) (Y:=jw X scope (nB X.N os fi) code s3 H3 fp) (Q:=Q) (ps:=[(h4.objs.size,oa)]) (pins:=pins) (σ:=σ) (E:=X.xe) hr.hd hroom (List.mem_singleton.mpr rfl) isg
  (fun s' h' y σ' H' I' kk hb q=>by
   have J:=om (h':=h') I3 f3 I' kk (jT (g:=s3.gens.size) I'.bare hb);exact ⟨.bl true,H',J,rfl,q⟩) (fun s' y σ' H' I' hb q=>by
   have J:=om (h':=s'.heap) I3 f3 I' (fun _ _ e=>e) (jT (g:=s3.gens.size) I'.bare hb);exact ⟨.bl false,H',J,rfl,q⟩)
  (m0 + 1) gc _ (isg _ ga) (I3.nolimit.keeps k5) (by simp) ?_
 subst hgc;refine ⟨rfl,uu (X:=X) (Y:=jw X scope (nB X.N os fi) code s3 H3 fp) rfl rfl T (T.keep _ _ _ st3 fun b hb o e=>k5 b o e) ?_⟩;exact wK (X:=X) (Y:=jw X scope (nB X.N os fi) code s3 H3 fp) rfl rfl hc hco (hg _ _ _ _) (hel _ _ _ _) T stat turn (m0 + 1) m0 0 _ H3 _ _ (Nat.lt_succ_self _) (by rw [jq]; exact lg) IY (T.keep _ _ _ st3 fun b hb o e=>k5 b o e) (fun b hb=>(f3 b hb).1) w0
end
def kr (mg:Str→Option Value) (h:Heap):Prop:=∃(bm:Addr) (ob:Obj),mg "__builtins__" = some (.ref bm)∧bm≠builtinsNs∧h.get? bm=some ob∧ob.cls = .type "module"∧ob.dict=some builtinsNs∧ob.data = .plain
structure OnlyT (Ts:List (Addr × Addr)) (H:Hp):Prop where
 all:∀b,H b=none∨(∃o xs,H b=some (.frz o (.lst xs)))∨(H b=some (.tbl #[])∧∃t∈Ts,t.2=b)
 tab:∀t∈Ts,H t.2=some (.tbl #[])
theorem sf {P:Program} {w:World} {K:PySem.W.Frag} {mg mb:Str→Option Value} {CX:CXT} {k:Nat} {fa a:Addr} {fd:FuncData} {x:Str} {sp:Sp} {s:Shared} {vs:List Value} {ns:List Int} {Ts:List (Addr × Addr)}
  (KX:K.In s.heap) (hns:s.heap.Ns mainGlobals mg) (hb:s.heap.Ns builtinsNs mb) (hbb:∀x:Str,x≠"__name__"→mb x=bootBuiltins x) (hlim:s.heap.NoLimit) (hg:s.gens = #[]) (hT:∀t∈Ts,s.heap.TableAt t.1 t.2 #[]) (hKT:∀t∈Ts,K.lookup t.2=none) (hbm:kr mg s.heap)
  (ha:s.heap.get? a=some {cls:=.type "list",data:=.seq vs.toArray}) (hi:IntsAre vs ns) (hl:ns.length≤sizeLine) (hr:Room k callerA)
  (F:∀base:Heap,K.In base→base.Ns mainGlobals mg→kr mg base→FnOk P w K mg base CX k fa fd [x] sp) (hbind:∀(s:Shared) (u:Value),BindsTo s fd ⟨[u],[]⟩ [(x,u)])
  (hsp:∀H:Hp,OnlyT Ts H→SqL K H a (ns.map V.int)→sp [.ref a] H (fun v _=>v = .bl true) fun _ _ _=>False)
  (hCX:∀H e s',CX [] H s (fun _ _ _=>False) e s'→False) :
  codeAny (model P w) callerA (.call (.ref fa) ⟨[.ref a],[]⟩) (fun r s'=>r = .ok (.ret (.bool true))∧OldK s.heap s'.heap∧s'.os=s.os∧AllBare s'.gens) s:=by
 have rv:=lA hi;have lenV:=hi.length;have aP:∀t∈Ts,t.2≠a:=fun t ht z=>by
  have e:=(hT t ht).2;rw [z,ha] at e;cases e
 have run:∀H:Hp,OnlyT Ts H→SqL K H a (ns.map V.int)→HOk P w H s.heap→(∀b,H b≠none→b=a∨∃t∈Ts,t.2=b)→(H a≠none→K.lookup a=none)→
   codeAny (model P w) callerA (.call (.ref fa) ⟨[.ref a],[]⟩) (fun r s'=>r = .ok (.ret (.bool true))∧OldK s.heap s'.heap∧s'.os=s.os∧AllBare s'.gens) s:=by
  intro H hO hS hok hA hK;have lift:∀{b:Addr} {o:Obj},s.heap.get? b=some o→H b=none→(kn s.heap H).get? b=some o:=fun e n=>tM e n;have un0:∀{b:Addr} {o:Obj},s.heap.get? b=some o→(∀its n,o.data≠.seq its n)→(∀fs,o.data≠.fields fs)→H b=none:=fun {b o} e d1 d2=>by
   cases q:H b with
   | none=>rfl
   | some u=>
    rcases hA b (by rw [q]; simp) with z | ⟨t,ht,z⟩
    ·subst z; rw [ha] at e; cases e; exact absurd rfl (d1 _ _)
    ·subst z; rw [(hT t ht).2] at e; cases e; exact absurd rfl (d2 _)
  have ns1:∀{b:Addr} {m:Str→Option Value},s.heap.Ns b m→(kn s.heap H).Ns b m:=fun {b m} ⟨o,es,ep,e,d,r⟩=>⟨o,es,ep,lift e (un0 e (fun _ _ z=>by rw [d] at z; cases z) fun _ z=>by rw [d] at z; cases z),d,r⟩;have kb:K.In (kn s.heap H):=fun b o e=>lift (KX b o e) (by
   cases q:H b with
   | none=>rfl
   | some u=>
    rcases hA b (by rw [q]; simp) with z | ⟨t,ht,z⟩
    ·subst z; rw [hK (by rw [q]; simp)] at e; cases e
    ·subst z; rw [hKT t ht] at e; cases e)
  have bmb:kr mg (kn s.heap H):=by
   obtain ⟨bm,ob,b1,b2,b3,b4,b5,b6⟩:=hbm;exact ⟨bm,ob,b1,b2,lift b3 (un0 b3 (fun _ _ z=>by rw [b6] at z; cases z) fun _ z=>by rw [b6] at z; cases z),b4,b5,b6⟩
  have hM:Mod K mg (kn s.heap H):=⟨kb,ns1 hns,⟨mb,ns1 hb,hbb⟩,let ⟨mc,h1,h2⟩:=hlim; ⟨mc,ns1 h1,h2⟩⟩;have e0:Env0 P w K mg (kn s.heap H) callerA [] s H:=⟨rfl,hM,fun b o e=>vV e,Nat.le_of_eq (rK _ _),trivial,fun b hb=>absurd (show b∈([]:List Addr) from hb) (by simp),hok,.of_eq hg⟩;refine codeAny_mono ((F _ kb (ns1 hns) bmb).run callerA [] s H ⟨[.ref a],[]⟩ [.ref a] [.ref a] _ _ hr e0 (hbind s (.ref a)) (.cons rfl .nil) (hsp H hO hS)) fun r s' h=>?_;cases r with
  | error e=>exact (hCX H e s' h).elim
  | ok fl=>
   cases fl with
   | next=>exact False.elim h
   | brk=>exact False.elim h
   | cont=>exact False.elim h
   | ret u=>
    obtain ⟨v,H',os,bare,un,hok',r',q⟩:=h;have q':v = .bl true:=q;subst q';obtain rfl:u=Value.bool true:=r';refine ⟨rfl,⟨fun b o e=>?_,fun b o e=>un.there b o e (by simp)⟩,os,bare⟩;rcases hO.all b with z | ⟨ob,xs,z⟩ | ⟨z,t,ht,rfl⟩
    ·exact .inl (un.keep b o e z (by intro y; exact absurd (show b∈([]:List Addr) from y) (by simp)) (by simp))
    ·have z2:=un.frzs b ob _ z;obtain ⟨e1,_⟩:=hok b _ z;obtain ⟨e2,_⟩:=hok' b _ z2;rw [e] at e1; cases e1;exact .inl e2
    ·obtain ⟨more,z2⟩:=un.tbls _ _ z;have e1:s.heap.get? t.2=some {cls:=.none,data:=.fields #[]}:=hok _ _ z;have e2:s'.heap.get? t.2=some {cls:=.none,data:=.fields (#[] ++ more)}:=hok' _ _ z2;rw [e] at e1; cases e1;exact .inr (.inl ⟨(hT t ht).isCodeTable,rfl,#[],more,rfl,e2⟩)
 have mem:∀b,(∃t∈Ts,t.2=b)∨¬∃t∈Ts,t.2=b:=fun b=>Classical.em _;have dc:∀b,Decidable (∃t∈Ts,t.2=b):=fun b=>Classical.propDecidable _;cases hk:K.lookup a with
 | some o=>
  have e:=KX a o hk;rw [ha] at e;cases e;refine run (fun b=>if (∃t∈Ts,t.2=b) then some (.tbl #[]) else none) ⟨fun b=>?_,fun t ht=>if_pos ⟨t,ht,rfl⟩⟩ (.inr ⟨_,vs.toArray,_,hk,rfl,rfl,rfl,by rw [List.size_toArray,lenV]; exact hl,by simpa using rv⟩) (fun b u z=>?_) (fun b z=>?_) fun z=>?_
  ·rcases mem b with y | y
   ·exact .inr (.inr ⟨if_pos y,y⟩)
   ·exact .inl (if_neg y)
  ·rcases mem b with y | y
   ·have z':=(if_pos y).symm.trans z;cases z';obtain ⟨t,ht,rfl⟩:=y;exact (hT t ht).2
   ·have z':=(if_neg y).symm.trans z;cases z'
  ·rcases mem b with y | y
   ·exact .inr y
   ·exact absurd (if_neg y) z
  ·refine absurd (if_neg ?_) z;rintro ⟨t,ht,e⟩;exact aP t ht e
 | none=>
  refine run (fun b=>if b=a then some (.frz {cls:=.type "list",data:=.seq vs.toArray} (.lst (ns.map V.int))) else if (∃t∈Ts,t.2=b) then some (.tbl #[]) else none) ⟨fun b=>?_,fun t ht=>?_⟩ (.inl (.inr ⟨{cls:=.type "list",data:=.seq vs.toArray},if_pos rfl⟩)) (fun b u z=>?_) (fun b z=>?_) fun _=>hk
  ·by_cases hb:b=a
   ·exact .inr (.inl ⟨_,_,if_pos hb⟩)
   ·rcases mem b with y | y
    ·exact .inr (.inr ⟨(if_neg hb).trans (if_pos y),y⟩)
    ·exact .inl ((if_neg hb).trans (if_neg y))
  ·exact (if_neg (aP t ht)).trans (if_pos ⟨t,ht,rfl⟩)
  ·by_cases hb:b=a
   ·have z':=(if_pos hb).symm.trans z;cases z';subst hb;exact ⟨ha,by rw [List.length_map]; exact hl,vs,_,rv,ha⟩
   ·rcases mem b with y | y
    ·have z':=((if_neg hb).trans (if_pos y)).symm.trans z;cases z';obtain ⟨t,ht,rfl⟩:=y;exact (hT t ht).2
    ·have z':=((if_neg hb).trans (if_neg y)).symm.trans z;cases z'
  ·by_cases hb:b=a
   ·exact .inl hb
   ·rcases mem b with y | y
    ·exact .inr y
    ·exact absurd ((if_neg hb).trans (if_neg y)) z
theorem uw {l:PySem.W.OpenLaw} {n k:Nat} {q:Program} {loose:List Str} {XP:(Str→Option Value)→Heap→Prop} {YP:World→Heap→Prop} {d:DefRec} {K:Params→PySem.W.Frag} {CX:World→CXT} {sp:World→Sp} {x:Str} {Ts:World→List (Addr × Addr)}
  (hn:l.most=some n) (hn2:n≤sizeLine) (hdf:d.params.defaults=[]) (hr:Room k callerA)
  (hY:∀(w:World) (h:Heap),YP w h→(K w.params).In h)
  (hT:∀(w:World) (h:Heap) (lo:List Str) (mean:ExcName→Option Value) (mg mb:Str→Option Value),(K w.params).In h→Top q lo mean mg mb h→∀t∈Ts w,h.TableAt t.1 t.2 #[]) (hKT:∀(w:World),∀t∈Ts w,(K w.params).lookup t.2=none)
  (F:∀(w:World) (mg:Str→Option Value) (fa:Addr) (h:Heap),(K w.params).In h→h.Ns mainGlobals mg→mg d.name=some (.ref fa)→
   ∃fd:FuncData,(∀(s:Shared) (u:Value),BindsTo s fd ⟨[u],[]⟩ [(x,u)])∧
    ∀base:Heap,(K w.params).In base→base.Ns mainGlobals mg→kr mg base→FnOk l.prog w (K w.params) mg base (CX w) k fa fd [x] (sp w))
  (hsp:∀(w:World) (H:Hp) (a:Addr) (ns:List Int),ns.length≤n→OnlyT (Ts w) H→SqL (K w.params) H a (ns.map V.int)→sp w [.ref a] H (fun v _=>v = .bl true) fun _ _ _=>False)
  (hCX:∀(w:World) (H:Hp) (s:Shared) (e:Value) (s':Shared),CX w [] H s (fun _ _ _=>False) e s'→False) :
  PySem.W.WalkO q loose XP YP l.row.toRowW d [] (fun f vs=>PySem.call f vs):=by
 refine Att.attach_call hn hdf fun w s₀ s₁ mg mb fa o pm cd doc a vs ns G Y ho hd hcd hmg hobj hints hlen hg=>?_;have KX:=hY w _ Y;obtain ⟨fd,hb,hF⟩:=F w mg fa _ KX G.T.g hmg;exact sf KX G.T.g G.T.b G.T.builtins G.T.nolimit hg (hT w _ _ _ _ _ KX G.T) (hKT w) G.T.bmain hobj hints (Nat.le_trans hlen hn2) hr hF hb (fun H hO hS=>hsp w H a ns hlen hO hS) fun H e s'=>hCX w H s₁ e s'
def Its (x:Str):It:=⟨fun i _=>i < x.cps.size,fun i H v H'=>H'=H∧∃c,x.cps[i]? = some c∧v = .str ⟨#[c]⟩,fun i _=>i=x.cps.size⟩
theorem oq {P:Program} {w:World} {K:PySem.W.Frag} {tg:Expr} {it:Addr} {x:Str} {t:Tok} {ty:String} (hn:["enumerate","zip","dict_itemiterator","dict_reverseitemiterator","odict_iterator","itertools.zip_longest","itertools.pairwise"].contains ty=false)
  (W:∀A':Around,A'.handled=none→Walks P w A' it [it] [it] x.cps.size (SignAt x) (fun i h=>h.IsStrIter it ty x t i))
  (hself:∀(A:Around) (i:Nat) (s:Shared) (Q:Value→Shared→Prop) (E:Value→Shared→Prop),s.heap.IsStrIter it ty x t i→Q (.ref it) s→wpAny (model P w) A (pyIter (.ref it)) Q E s):Turn P w K tg (Its x) [it] it (fun i h=>h.IsStrIter it ty x t i) where
 mem:=by simp
 obj:=fun i h st b hb=>by
  have e:b=it:=by simpa using hb
  subst e;obtain ⟨o,ho,_,d⟩:=st;exact ⟨o,ho,fun v z=>by rw [d] at z; cases z⟩
 keep:=fun i h h' st k=>by
  obtain ⟨o,ho,r⟩:=st;exact ⟨o,k it (by simp) o ho,r⟩
 item:=by
  intro X hP hw hK hc i pins s σ H E I hf st hg;subst hP hw hK;obtain ⟨f0,f1,f2,f3,f4,f5⟩:=hf it (by simp);refine (W X.A (I.ok.hd hc)).item i s _ _ hg st fun v h' tk hv st' kk=>?_;obtain ⟨c,u,hcu,rfl⟩:=hv;have I1:Inv X pins σ H {s with heap:=h',toks:=tk}:=I.turned (fun b o hb e=>kk b o (by simpa using hb) e) f0 f1 f3 f4 f5;obtain ⟨o,ho,hcl,d⟩:=id st';exact ⟨_,rfl,qv (s:={s with heap:=h',toks:=tk}) ho hcl d hn ⟨.str ⟨#[c]⟩,H,I1,⟨u,rfl⟩,⟨rfl,c,hcu,rfl⟩,st',fun b hb=>(hf b hb).1⟩⟩
 done:=by
  intro X hP hw hK hc i pins s σ H E I hf st hg;subst hP hw hK;obtain ⟨f0,f1,f2,f3,f4,f5⟩:=hf it (by simp);have hi:i=x.cps.size:=hg;subst hi;exact (W X.A (I.ok.hd hc)).done s _ _ st fun h' tk kk=>⟨rfl,I.turned (fun b o hb e=>kk b o (by simpa using hb) e) f0 f1 f3 f4 f5⟩
 self:=fun A i s Q E st h=>hself A i s Q E st h
def Af (tl:TE):TI:=fun σ H R=>tl σ H fun v H1=>∃x,v = .str x∧R (Its x) H1
section
variable {X:Cx} {tg:Expr}
theorem yS {l:Expr} {tl:TE} (hl:PE X l tl):PI X tg l (Af tl):=by
 intro pins s σ H R I h;refine thn (hl pins s σ H _ I h) fun v s1 ⟨y,H1,I1,r1,x,e,q⟩=>?_;subst e;obtain ⟨t,rfl⟩:=r1;have fin:∀b∈[s1.heap.objs.size],cX X pins H1 b:=fun b hb=>by
  have e:b=s1.heap.objs.size:=by simpa using hb
  subst e;exact I1.fpOk (Nat.le_refl _) (I1.hok.fresh (Nat.le_refl _))
 cases ha:x.cps.all (· < 128)
 ·refine wpAny_pyIter_wide ha ?_;exact ⟨s1.heap.objs.size,[s1.heap.objs.size],_,_,H1,rfl,I1.kept (t':=s1.toks) fun b o e=>Heap.get?_push_of_some _ e,oq (by decide) (fun A' hA=>Walks.strWide hA _ x t) (fun A i s Q E st h=>wpAny_pyIter_striter_wide st h),⟨_,Heap.get?_push_size _ rfl,rfl,rfl⟩,fin,q⟩
 ·refine wpAny_pyIter_ascii ha ?_;exact ⟨s1.heap.objs.size,[s1.heap.objs.size],_,_,H1,rfl,I1.kept (t':=s1.toks) fun b o e=>Heap.get?_push_of_some _ e,oq (by decide) (fun A' hA=>Walks.strAscii hA _ x t) (fun A i s Q E st h=>wpAny_pyIter_striter_ascii st h),⟨_,Heap.get?_push_size _ rfl,rfl,rfl⟩,fin,q⟩
def Ag (K:PySem.W.Frag) (neg:Bool):R2:=fun x y H Q=>∃a b xs ys,x = .ref a∧y = .ref b∧SqL K H a xs∧SqL K H b ys∧xs.all cA=true∧ys.all cA=true∧Q (.bl (if neg then !iw xs ys else iw xs ys)) H
theorem lH {xs ys:List V} (h:xs.length≠ys.length):iw xs ys=false:=by
 rw [← iI];have:(xs.length == ys.length)=false:=by simpa using h
 rw [this,Bool.and_false]
theorem yT (hu:X.A.units < cLine):OpR X (compareOp .Eq) (Ag X.K false):=by
 intro pins s σ H x y v u Q I rx ry h;obtain ⟨a,b,xs,ys,rfl,rfl,ha,hb,f1,f2,q⟩:=h;cases rx;cases ry;obtain ⟨its,r1,p1,_⟩:=I.list ha;obtain ⟨its2,r2,p2,_⟩:=I.list hb
 by_cases hz:xs.length=ys.length
 ·have hz2:its.toArray.size=its2.toArray.size:=by rw [List.size_toArray,List.size_toArray,← r1.length,← r2.length]; exact hz
  refine SeqAt.eq_listAt p1.isList p2.isList hz2 hu (oi r1 r2 f1 f2) ⟨.bl _,H,I,rfl,?_⟩;have e:(List.range its.toArray.size).all (eAt xs ys)=iw xs ys:=by
   rw [← iI,List.size_toArray,← r1.length,← hz,Nat.min_self]; simp
  rw [e];exact q
 ·have hz2:(its.toArray.size != its2.toArray.size)=true:=by
   rw [List.size_toArray,List.size_toArray,← r1.length,← r2.length]; simpa using hz
  have q':Q (.bl false) H:=by rw [lH hz] at q; exact q
  exact SeqAt.eq_list_lengthsAt p1.isList p2.isList hz2 hu ⟨.bl _,H,I,rfl,q'⟩
theorem yU (hu:X.A.units < cLine):OpR X (compareOp .NotEq) (Ag X.K true):=by
 intro pins s σ H x y v u Q I rx ry h;obtain ⟨a,b,xs,ys,rfl,rfl,ha,hb,f1,f2,q⟩:=h;cases rx;cases ry;obtain ⟨its,r1,p1,_⟩:=I.list ha;obtain ⟨its2,r2,p2,_⟩:=I.list hb
 by_cases hz:xs.length=ys.length
 ·have hz2:its.toArray.size=its2.toArray.size:=by rw [List.size_toArray,List.size_toArray,← r1.length,← r2.length]; exact hz
  refine SeqAt.RcNeAt.lists p1.isList p2.isList hz2 hu (oi r1 r2 f1 f2) _ _ _ _ ⟨.bl _,H,I,rfl,?_⟩;have e:(List.range its.toArray.size).all (eAt xs ys)=iw xs ys:=by
   rw [← iI,List.size_toArray,← r1.length,← hz,Nat.min_self]; simp
  rw [e];exact q
 ·have hz2:(its.toArray.size != its2.toArray.size)=true:=by
   rw [List.size_toArray,List.size_toArray,← r1.length,← r2.length]; simpa using hz
  have q':Q (.bl true) H:=by rw [lH hz] at q; exact q
  exact SeqAt.RcNeAt.lists_lengths p1.isList p2.isList hz2 hu _ _ _ _ ⟨.bl _,H,I,rfl,q'⟩
end
def ux (K:PySem.W.Frag) (n:Str):Addr:=match PySem.W.nsIn K mainGlobals n with
 | some (some (.ref f))=>(match K.lookup f with
  | some ⟨_,_,.func fd,_⟩=>(match fd.code with
   | .ref c=>c
   | _=>0)
  | _=>0)
 | _=>0
def iy (K:PySem.W.Frag) (n:Str):Addr:=match K.lookup (ux K n) with
 | some ⟨_,_,.fields vs,_⟩=>(match (vs[11]?:Option Value) with
  | some (.ref T)=>T
  | _=>0)
 | _=>0
structure CodeN (K:PySem.W.Frag) (n:Str) (f c T:Addr) (fd:FuncData):Prop where
 a:PySem.W.nsIn K mainGlobals n=some (some (.ref f))
 l:∃oc od sl,K.lookup f=some ⟨oc,od,.func fd,sl⟩
 hc:fd.code = .ref c
 lc:∃(od:Option Addr) (vs:Array Value) (sl:Array (Option Value)) (file:Str) (tf:Tok) (flags:Int) (tk:Tok) (inF:Bool) (text:Int) (tt:Tok),K.lookup c=some ⟨.type "code",od,.fields vs,sl⟩∧vs[11]? = some (.ref T)∧vs.getD 18 .none = .str file tf∧
  vs.getD 7 .none = .int flags tk∧vs.getD 9 .none = .bool inF∧vs.getD 10 .none = .int text tt
 ne:c≠T
section
variable {K:PySem.W.Frag} {n:Str} {f c T:Addr} {fd:FuncData}
theorem CodeN.cd (C:CodeN K n f c T fd):ux K n=c:=by
 obtain ⟨oc,od,sl,l⟩:=C.l;unfold ux;rw [C.a];simp only [l,C.hc]
theorem CodeN.tb (C:CodeN K n f c T fd):iy K n=T:=by
 obtain ⟨od,vs,sl,_,_,_,_,_,_,_,l,h11,_⟩:=C.lc;unfold iy;rw [C.cd];simp only [l,h11]
theorem CodeN.ck (C:CodeN K n f c T fd):CodeK K c T:=by
 obtain ⟨od,vs,sl,file,tf,flags,tk,inF,text,tt,l,h11,r⟩:=C.lc;exact ⟨⟨_,vs,file,tf,flags,tk,inF,text,tt,l,rfl,rfl,h11,r⟩,C.ne⟩
theorem CodeN.tab {q:Program} {lo:List Str} {mean:ExcName→Option Value} {mg mb:Str→Option Value} {h:Heap} {d:DefRec} (C:CodeN K n f c T fd) (KX:K.In h) (Tp:Top q lo mean mg mb h) (hf:(recsOf q).find? (fun e=>e.name == n)=some d):h.TableAt (ux K n) (iy K n) #[]:=by
 rw [C.cd,C.tb];have hn:d.name=n:=beq_iff_eq.mp (List.find?_some (p:=fun e:DefRec=>e.name == n) hf);obtain ⟨a',o',fd',c',P',h1,h2,h3,h4,h5,h6⟩:=Tp.tab d (List.mem_of_find?_eq_some hf);have hm:=PySem.W.mg_of KX Tp.g C.a;rw [hn,hm] at h1; cases h1;obtain ⟨oc,od,sl,l⟩:=C.l;rw [KX _ _ l] at h2; cases h2;cases h3;rw [C.hc] at h4; cases h4;obtain ⟨od2,vs,sl2,_,_,_,_,_,_,_,l2,h11,_⟩:=C.lc;obtain ⟨⟨o3,vs3,e1,_,e2,e3⟩,_⟩:=id h6;rw [KX _ _ l2] at e1; cases e1;cases e2;rw [h11] at e3; cases e3;exact h6
theorem iK {oc:Value} {od odc:Option Addr} {sl slc:Array (Option Value)} {vs:Array Value} {file:Str} {tf:Tok} {flags:Int} {tk:Tok} {inF:Bool} {text:Int} {tt:Tok} (a:PySem.W.nsIn K mainGlobals n=some (some (.ref f))) (l:K.lookup f=some ⟨oc,od,.func fd,sl⟩) (hc:fd.code = .ref c)
  (lc:K.lookup c=some ⟨.type "code",odc,.fields vs,slc⟩) (h11:vs[11]? = some (.ref T)) (h18:vs.getD 18 .none = .str file tf) (h7:vs.getD 7 .none = .int flags tk) (h9:vs.getD 9 .none = .bool inF) (h10:vs.getD 10 .none = .int text tt) (ne:c≠T):CodeN K n f c T fd:=
 ⟨a,⟨oc,od,sl,l⟩,hc,⟨odc,vs,slc,file,tf,flags,tk,inF,text,tt,lc,h11,h18,h7,h9,h10⟩,ne⟩
end
abbrev TB:=St→Hp→(St→Hp→Prop)→Prop
abbrev Fi:=PySem.Fin
def PB (Y:Cx) (body:Sem Fi→Sem Fi) (t:TB):Prop:=
 ∀(pins:List (Addr × Obj)) (s:Shared) (σ:St) (H:Hp) (N:St→Hp→Prop) (k:Sem Fi) (R:Fi→Shared→Prop),Inv Y pins σ H s→t σ H N→
  (∀σ' H' s',Inv Y pins σ' H' s'→N σ' H'→wpAny (model Y.prog Y.w) Y.A k R F0 s')→wpAny (model Y.prog Y.w) Y.A (body k) R F0 s
def je (tg:Expr) (p:Pos) (ifs:List Expr) (it:Value) (env:Env) (body:Sem Fi→Sem Fi) (k:Sem Fi):Sem Fi:=do
 standAt p
 match ← pyNext it with
 | none=>pure (.done .next)
 | some v=>
  letOwnedTupleGo tg it v
  assign tg env v
  let mut ok:=true
  for c in ifs do
   if ok then ok ← isTrue c env (eval c env)
  if ok then body k else k
def dC (P:Program) (w:World) (A:Around) (e:Expr) (d:Nat):Prop:=∀(it acc:Value) (env:Env) (R:Result→Shared→Prop) (I:Nat→Shared→Prop),
 (∀n s,I n s→wpAny (model P w) A (compTurn e d it acc env) (fun fin s'=>match fin with | .done f=>R (.ok f) s' | .again c'=>c' = .compLoop e d it acc env∧∃m,m < n∧I m s') F0 s)→
 ∀n s,I n s→codeAny (model P w) A (.compLoop e d it acc env) R s
def dq (P:Program) (w:World) (A:Around) (e:Expr) (d:Nat):Prop:=∀(it acc:Value) (env:Env) (R:Result→Shared→Prop) (s:Shared),
 codeAny (model P w) A (.compLoop e d it acc env) R s→wpAny (model P w) A (pyIter it) (fun it' s'=>codeAny (model P w) A (.compLoop e d it' acc env) R s') F0 s→codeAny (model P w) A (.compStart e d it acc env) R s
section
variable {P:Program} {w:World} {A:Around} {elt kx vx:Expr} {gens:List Comprehension} {scope:Scope} {pos:Pos} {d:Nat} {g:Comprehension}
theorem gT:dC P w A (.ListComp elt gens scope pos) d:=by
 intro it acc env R I turn n s h;refine codeAny_loop rfl I (fun n s hI=>?_) n h;show wpAny _ A ((compTurn (.ListComp elt gens scope pos) d it acc env).onRaise (fun x=>do noteFrame x env; theTreesLotGoes x)) _ _ s;exact wpAny_noted (bV (turn n s hI) fun _ _ z=>z)
theorem uy:dC P w A (.SetComp elt gens scope pos) d:=by
 intro it acc env R I turn n s h;refine codeAny_loop rfl I (fun n s hI=>?_) n h;show wpAny _ A ((compTurn (.SetComp elt gens scope pos) d it acc env).onRaise (fun x=>do noteFrame x env; theTreesLotGoes x)) _ _ s;exact wpAny_noted (bV (turn n s hI) fun _ _ z=>z)
theorem sh:dC P w A (.DictComp kx vx gens scope pos) d:=by
 intro it acc env R I turn n s h;refine codeAny_loop rfl I (fun n s hI=>?_) n h;show wpAny _ A ((compTurn (.DictComp kx vx gens scope pos) d it acc env).onRaise (fun x=>do noteFrame x env; theTreesLotGoes x)) _ _ s;exact wpAny_noted (bV (turn n s hI) fun _ _ z=>z)
theorem jf {e:Expr} {it acc:Value} {env:Env} {R:Result→Shared→Prop} {s:Shared} {E:Value→Shared→Prop} (hg:(clausesOf e)[d]? = some g) (ha:g.is_async=0)
  (h0:codeAny (model P w) A (.compLoop e d it acc env) R s) (h:wpAny (model P w) A (pyIter it) (fun it' s'=>codeAny (model P w) A (.compLoop e d it' acc env) R s') F0 s) :
  wpAny (model P w) A (compStart e d it acc env) (fun fin s'=>match fin with | .done f=>R (.ok f) s' | .again c'=>c'.quiet=true∧codeAny (model P w) A c' R s') E s:=by
 unfold compStart;rw [hg];simp only [Option.elim,ha];show wpAny _ _ (ask >>= _) _ _ s;refine wpAny_bind (wpAny_askSetting (wpAny_ite ?_))
 split
 ·first
   | exact wpAny_bind (wpAny_pure (wpAny_pure (And.intro rfl h0)))
   | exact wpAny_pure (And.intro rfl h0)
 ·refine wpAny_bind (wpAny_rule ?_);exact wpAny_bind (wpAny_standAt (wpAny_bind (bV h fun it' s' h'=>wpAny_pure (And.intro rfl h'))))
theorem fz (hg:gens[d]? = some g) (ha:g.is_async=0):dq P w A (.ListComp elt gens scope pos) d:=by
 intro it acc env R s h0 h;refine codeAny_of_tree ?_;show wpAny _ _ ((compStart (.ListComp elt gens scope pos) d it acc env).onRaise (fun x=>do noteFrame x env; standAt theWindowsPlace)) _ _ s;exact wpAny_notedAt (jf (e:=.ListComp elt gens scope pos) hg ha h0 h)
theorem si (hg:gens[d]? = some g) (ha:g.is_async=0):dq P w A (.SetComp elt gens scope pos) d:=by
 intro it acc env R s h0 h;refine codeAny_of_tree ?_;show wpAny _ _ ((compStart (.SetComp elt gens scope pos) d it acc env).onRaise (fun x=>do noteFrame x env; standAt theWindowsPlace)) _ _ s;exact wpAny_notedAt (jf (e:=.SetComp elt gens scope pos) hg ha h0 h)
theorem pR (hg:gens[d]? = some g) (ha:g.is_async=0):dq P w A (.DictComp kx vx gens scope pos) d:=by
 intro it acc env R s h0 h;refine codeAny_of_tree ?_;show wpAny _ _ ((compStart (.DictComp kx vx gens scope pos) d it acc env).onRaise (fun x=>do noteFrame x env; standAt theWindowsPlace)) _ _ s;exact wpAny_notedAt (jf (e:=.DictComp kx vx gens scope pos) hg ha h0 h)
end
def LR (J:It) (g:TG) (tt:TT) (tb:TB) (σ:St) (H:Hp) (N:St→Hp→Prop):Prop:=∃W:Nat→Nat→St→Hp→Prop,(∃m,W 0 m σ H)∧∀i m σ2 H2,W i m σ2 H2→
 (J.stop i H2∧N σ2 H2)∨(J.go i H2∧∀x H3,J.yld i H2 x H3→g x σ2 H3 fun σ4 H4=>tt σ4 H4 fun ok H5=>
  if ok=true then tb σ4 H5 (fun σ6 H6=>∃m',m' < m∧W (i + 1) m' σ6 H6) else ∃m',m' < m∧W (i + 1) m' σ4 H5)
section
variable {Y:Cx} {e tg iter:Expr} {ifs:List Expr} {d:Nat} {p:Pos} {body:Sem Fi→Sem Fi} {it:Addr} {acc:Value} {J:It} {g:TG} {tt:TT} {tb:TB} {wi:TI} {fp:List Addr} {tn:Nat→Heap→Prop} {pins:List (Addr × Obj)} {R:Result→Shared→Prop} {N:St→Hp→Prop} {s:Shared} {σ:St} {H:Hp}
theorem or (hL:dC Y.prog Y.w Y.A e d) (hc:Y.calm=true) (hx:Y.xe=F0) (hT:compTurn e d (.ref it) acc Y.env=je tg p ifs (.ref it) Y.env body (again (.compLoop e d (.ref it) acc Y.env)))
  (hg:PG Y tg g) (ht:PTs Y ifs tt) (hb:PB Y body tb) (T:Turn Y.prog Y.w Y.K tg J fp it tn) (stat:∀{H':Hp},(∀b∈fp,H' b=none)→∀b∈fp,cX Y pins H' b)
  (I:Inv Y pins σ H s) (st:tn 0 s.heap) (fr:∀b∈fp,H b=none) (q:LR J g tt tb σ H N) (hR:∀σ' H' s',Inv Y pins σ' H' s'→N σ' H'→R (.ok .next) s') :
  codeAny (model Y.prog Y.w) Y.A (.compLoop e d (.ref it) acc Y.env) R s:=by
 obtain ⟨W,⟨m0,w0⟩,turn⟩:=q;refine hL _ _ _ _ (fun n s'=>∃i σ' H',Inv Y pins σ' H' s'∧tn i s'.heap∧(∀b∈fp,H' b=none)∧W i n σ' H') ?_ m0 s ⟨0,σ,H,I,st,fr,w0⟩;rintro n s5 ⟨i,σ5,H5,I5,t5,fr5,w5⟩;rw [hT];unfold je;refine wpAny_bind (wpAny_standAt (wpAny_bind ?_));rcases turn i n σ5 H5 w5 with ⟨stop,qn⟩ | ⟨go,step⟩
 ·refine bV (T.done Y rfl rfl rfl hc i pins s5 σ5 H5 F0 I5 (stat fr5) t5 stop) fun r s6 ⟨hr,I6⟩=>?_;subst hr;exact wpAny_pure (hR _ _ _ I6 qn)
 ·refine bV (T.item Y rfl rfl rfl hc i pins s5 σ5 H5 F0 I5 (stat fr5) t5 go) fun r s6 ⟨u,hr,h6⟩=>?_;subst hr;refine wpAny_bind (bV h6 fun _ s7 ⟨x,H7,I7,r7,y7,t7,fr7⟩=>?_);have I7':=I7.pinned (stat fr7) (T.obj _ _ t7);have a1:=hg _ s7 σ5 H7 x u _ I7' r7 (step x H7 y7);rw [hx] at a1;refine wpAny_bind (bV a1 fun _ s8 ⟨σ8,H8,I8,q8⟩=>?_);have a2:=ht _ s8 σ8 H8 _ I8 q8;rw [hx] at a2;refine wpAny_bind (bV a2 fun ok s9 ⟨H9,I9,q9⟩=>?_);have again:∀{s':Shared} {σ':St} {H':Hp} {m:Nat},Inv Y (pins ++ i6 fp s7.heap) σ' H' s'→W (i + 1) m σ' H'→
    ∃i σ' H',Inv Y pins σ' H' s'∧tn i s'.heap∧(∀b∈fp,H' b=none)∧W i m σ' H':=fun {s' σ' H' m} J w=>by
   refine ⟨i + 1,σ',H',J.unpinned,T.keep _ _ _ t7 fun b hb o e=>(J.pin (b,o) (List.mem_append_right _ (List.mem_append_right _ (cK hb e)))).1,fun b hb=>?_,w⟩;obtain ⟨o,e,d⟩:=T.obj _ _ t7 b hb;exact (J.pin (b,o) (List.mem_append_right _ (List.mem_append_right _ (cK hb e)))).2.1
  cases ok with
  | false=>
   obtain ⟨m',lt,w9⟩:=(show ∃m',m' < n∧W (i + 1) m' σ8 H9 from q9);exact wpAny_pure ⟨rfl,m',lt,again I9 w9⟩
  | true=>
   exact hb _ s9 σ8 H9 _ _ _ I9 q9 fun σA HA sA IA ⟨m',lt,wA⟩=>wpAny_pure ⟨rfl,m',lt,again IA wA⟩
def pS (e:Expr) (d:Nat) (iter:Expr) (acc:Value) (env:Env) (k:Sem Fi):Sem Fi:=do
 let x ← eval iter env
 standAt iter.pos
 let x ← foldedSetIterable iter env x
 let _ ← runOwn (.compStart e d (← holding [x] (pyIter x)) acc env) env
 k
def tIn (wi:TI) (g:TG) (tt:TT) (tb:TB):TB:=fun σ H N=>wi σ H fun J H1=>LR J g tt tb σ H1 N
theorem Ah (hL:dC Y.prog Y.w Y.A e d) (hS:dq Y.prog Y.w Y.A e d) (hc:Y.calm=true) (hx:Y.xe=F0) (hT:∀it:Addr,compTurn e d (.ref it) acc Y.env=je tg p ifs (.ref it) Y.env body (again (.compLoop e d (.ref it) acc Y.env)))
  (hi:PI Y tg iter wi) (hg:PG Y tg g) (ht:PTs Y ifs tt) (hb:PB Y body tb) (hs:∀x,foldedSetIterable iter Y.env x=pure x:=by intro _; rfl):PB Y (pS e d iter acc Y.env) (tIn wi g tt tb):=by
 intro pins s σ H N k R I h hk;unfold pS;have a1:=hi pins s σ H _ I h;rw [hx] at a1;refine wpAny_bind (bV a1 fun v s1 h1=>wpAny_bind (wpAny_standAt (wpAny_bind (wpAny_of_eq (hs v) (wpAny_bind (wpAny_holding (bV h1 fun itv s2 h2=>?_)))))));obtain ⟨it,fp,tn,J,H2,rfl,I2,T,st2,f2,q⟩:=h2;refine wpAny_bind (wpAny_runOwn ?_);have lp:codeAny (model Y.prog Y.w) Y.A (.compLoop e d (.ref it) acc Y.env) (fun r s'=>match r with | .ok f=>wpAny (model Y.prog Y.w) Y.A k R F0 s' | .error e=>cameBackBy (model Y.prog Y.w) Y.A Y.env F0 e s') s2:=
  or hL hc hx (hT it) hg ht hb T (fun hn b hb=>⟨hn b hb,(f2 b hb).2⟩) I2 st2 (fun b hb=>(f2 b hb).1) q fun σ' H' s' I' n'=>hk σ' H' s' I' n'
 exact hS _ _ _ _ _ lp (T.self _ 0 _ _ _ st2 lp)
def iL (elt:Expr) (acc:Value) (env:Env) (k:Sem Fi):Sem Fi:=(do let _ ← call (.builtin "list.append") [acc,← eval elt env]) >>= fun _=>k
def pT (D:Addr) (te:TE):TB:=fun σ H N=>te σ H fun v H6=>∃xs,H6 D=some (.lst xs)∧xs.length < sizeLine∧N σ (upd H6 D (.lst (xs ++ [v])))
theorem mz {elt:Expr} {te:TE} {D:Addr} (hx:Y.xe=F0) (hel:PE Y elt te):PB Y (iL elt (.ref D) Y.env) (pT D te):=by
 intro pins s σ H N k R I h hk;have a1:=hel pins s σ H _ I h;rw [hx] at a1;refine wpAny_bind (wpAny_bind (bV a1 fun y sA ⟨v,HA,IA,rA,xs,hxs,hz,wA⟩=>wpAny_bind ?_));have a2:=cP pins sA σ HA (.ref D) [v] (.ref D) [y] (fun _ H'=>N σ H') IA rfl (.cons rA .nil) ⟨D,xs,v,rfl,rfl,hxs,hz,wA⟩;rw [hx] at a2;exact bV a2 fun _ sB' ⟨_,HB,IB,_,wB⟩=>wpAny_pure (hk σ HB sB' IB wB)
end
def gU (X:Cx) (mk:Sem Value) (o0:Addr→HO):Prop:=∀(pins:List (Addr × Obj)) (s:Shared) (σ:St) (H:Hp) (E:Value→Shared→Prop) (Q:Value→Shared→Prop),Inv X pins σ H s→
 (∀s3:Shared,(∀b o,s.heap.get? b=some o→s3.heap.get? b=some o)→Inv X pins σ (upd H s.heap.objs.size (o0 s.heap.objs.size)) s3→Q (.ref s.heap.objs.size) s3)→wpAny (model X.prog X.w) X.A mk Q E s
theorem jU {X:Cx}:gU X (newList []) (fun _=>.lst []):=by
 intro pins s σ H E Q I h;refine wpAny_newObj_type ?_;exact h _ (fun b o e=>Heap.get?_push_of_some _ e) (I.laid (t':=s.toks) (fun b u e=>Heap.get?_push_of_some _ e) (Nat.le_refl _) ⟨Nat.zero_le _,[],0,.nil,Heap.get?_push_size _ rfl⟩)
section
variable {X:Cx} {e tg iter:Expr} {ifs:List Expr} {scope esc:Scope} {pos:Pos} {N os:List Str} {fi:List Nat} {wi:TI} {g:TG} {tt:TT} {tb:Addr→TB} {body:Addr→Env→Sem Fi→Sem Fi} {o0:Addr→HO} {mk:Sem Value} {p:Pos}
theorem jV {pins:List (Addr × Obj)} {σ:St} {H:Hp} {s:Shared} {E:Value→Shared→Prop} {it:Addr} {fp:List Addr} {tn:Nat→Heap→Prop} {J:It} {Q:VK} {RR:Value→Addr→Result→Shared→Prop} (hc:X.calm=true) (hN:X.N=N) (he:X.env.scope=esc) (B:BlkOk esc scope N fi)
  (hL:dC X.prog X.w X.A e 0) (hS:dq X.prog X.w X.A e 0) (hT:∀(it D:Addr) (env:Env),compTurn e 0 (.ref it) (.ref D) env=je tg p ifs (.ref it) env (body D env) (again (.compLoop e 0 (.ref it) (.ref D) env)))
  (hmk:gU X mk o0)
  (hg:∀s H fp,PG (blk X scope (nB N os fi) s H fp) tg g) (ht:∀s H fp,PTs (blk X scope (nB N os fi) s H fp) ifs tt) (hb:∀D s H fp,PB (blk X scope (nB N os fi) s H fp) (body D (blk X scope (nB N os fi) s H fp).env) (tb D))
  (I:Inv X pins σ H s) (T:Turn X.prog X.w X.K tg J fp it tn) (st:tn 0 s.heap) (hf:∀b∈fp,cX X pins H b) (q:∀l,H l=none→LR J g tt (tb l) (sB σ os fi) (upd H l (o0 l)) fun _ H'=>Q (.ref l) H')
  (hRR:∀D s3 H3 s' σ' H',Inv X pins σ H3 s3→(∀b∈fp,cX X pins H3 b)→Inv (blk X scope (nB N os fi) s3 H3 fp) [] σ' H' s'→Q (.ref D) H'→RR (.ref D) s3.heap.objs.size (.ok .next) s') :
  wpAny (model X.prog X.w) X.A mk (fun acc s3=>wpAny (model X.prog X.w) X.A (newFunctionEnv scope X.env.globals (gB X.env scope.names []) [] X.env.qual none .none (some X.env)) (fun cenv s4=>
   codeAny (model X.prog X.w) X.A (.compStart e 0 (.ref it) acc {cenv with scope:=relabel scope X.env}) (RR acc cenv.locals) s4) E s3) E s:=by
 subst hN;have fresh:H s.heap.objs.size=none:=I.hok.fresh (Nat.le_refl _);have old:∀b∈fp,∃o,s.heap.get? b=some o:=fun b hb=>by
  obtain ⟨o,e,_⟩:=T.obj _ _ st b hb;exact ⟨o,e⟩
 refine hmk pins s σ H E _ I fun s3 k3 I3=>?_;have hf3:∀b∈fp,cX X pins (upd H s.heap.objs.size (o0 s.heap.objs.size)) b:=fun b hb=>by
  obtain ⟨o,e⟩:=old b hb;exact ⟨by rw [am (Nat.ne_of_lt (Heap.lt_size e))]; exact (hf b hb).1,(hf b hb).2⟩
 have st3:tn 0 s3.heap:=T.keep _ _ _ st fun b hb o e=>k3 b o e;have q3:=q _ fresh;have ho3:∀b∈fp,∃o,s3.heap.get? b=some o:=fun b hb=>by
  obtain ⟨o,e⟩:=old b hb;exact ⟨o,k3 b o e⟩
 generalize s.heap.objs.size=D at *;generalize upd H D (o0 D)=H3 at *;refine wpAny_newFunctionEnv B.nocell (by intro y hy; simp at hy) (fun h4 hn4 sb4=>?_) B.kind;have k4:∀b o,s3.heap.get? b=some o→h4.get? b=some o:=fun b o e=>(sb4.2 b (Nat.ne_of_lt (Heap.lt_size e))).trans (Heap.get?_push_of_some _ e);have I4:=jC (os:=os) (t1:=s3.toks + ([]:List (Str × Value)).length) B he I3 hf3 ho3 k4 hn4;have st4:tn 0 h4:=T.keep _ _ _ st3 fun b hb o e=>k4 b o e;have fpB:∀{H':Hp},(∀b∈fp,H' b=none)→∀b∈fp,cX (blk X scope (nB X.N os fi) s3 H3 fp) [] H' b:=fun hn b hb=>by
  refine ⟨hn b hb,(I4.ok.exf b hb).1,I4.ok.exfs b hb,.inl hb,(I4.ok.exf b hb).2,fun p hp=>nomatch hp⟩
 have lp:=or (Y:=blk X scope (nB X.N os fi) s3 H3 fp) (R:=RR (.ref D) s3.heap.objs.size) hL hc rfl (hT it D _) (hg s3 H3 fp) (ht s3 H3 fp) (hb D s3 H3 fp) T fpB I4 st4 (fun b hb=>(hf3 b hb).1) q3
  fun σ' H' s' I' n'=>hRR D s3 H3 s' σ' H' I3 hf3 I' n'
 exact hS _ _ _ _ _ lp (T.self _ 0 _ _ _ st4 lp)
def tCG (o0:Addr→HO) (os:List Str) (fi:List Nat) (wi:TI) (g:TG) (tt:TT) (tb:Addr→TB):TE:=fun σ H Q=>wi σ H fun J H1=>∀l,H1 l=none→LR J g tt (tb l) (sB σ os fi) (upd H1 l (o0 l)) fun _ H'=>Q (.ref l) H'
theorem iM {gs:List Comprehension} {p':Pos} (hev:eval e X.env=comprehension e scope X.env p' mk false (eval iter X.env)) (hcl:clausesOf e=⟨tg,iter,ifs,0⟩ :: gs) (hc:X.calm=true) (hN:X.N=N) (he:X.env.scope=esc) (B:BlkOk esc scope N fi)
  (hL:dC X.prog X.w X.A e 0) (hS:dq X.prog X.w X.A e 0) (hT:∀(it D:Addr) (env:Env),compTurn e 0 (.ref it) (.ref D) env=je tg p ifs (.ref it) env (body D env) (again (.compLoop e 0 (.ref it) (.ref D) env)))
  (hmk:gU X mk o0) (hi:PI X tg iter wi)
  (hg:∀s H fp,PG (blk X scope (nB N os fi) s H fp) tg g) (ht:∀s H fp,PTs (blk X scope (nB N os fi) s H fp) ifs tt) (hb:∀D s H fp,PB (blk X scope (nB N os fi) s H fp) (body D (blk X scope (nB N os fi) s H fp).env) (tb D))
  (hs:∀x,foldedSetIterable iter X.env x=pure x:=by intro _; rfl):PE X e (tCG o0 os fi wi g tt tb):=by
 intro pins s σ H Q I h;have cells:=dQ (by rw [hN]; exact B) he I;rw [hev];refine wpAny_comprehension_free (use:=none) hcl hs (dY cells) B.kind B.loc (thn (hi pins s σ H _ I h) fun v s1 h1=>thn h1 fun itv s2 h2=>?_);obtain ⟨it,fp,tn,J,H2,rfl,I2,T,st2,f2,q2⟩:=h2;refine jV (RR:=fun acc C=>compPost (model X.prog X.w) X.A X.xe none (EP X pins σ Q) acc C) hc hN he B hL hS hT hmk hg ht hb I2 T st2 f2 q2 ?_;intro D s3 H3 s' σ' H' I3 f3 I' q;obtain ⟨m,hn,_⟩:=I'.loc;exact ⟨m,hn,fun h' sb=>⟨.ref D,H',jD I3 f3 I' sb,rfl,q⟩⟩
end
section
variable {X:Cx} {elt tg iter tg2 iter2:Expr} {ifs ifs2:List Expr} {scope esc:Scope} {pos:Pos} {N os:List Str} {fi:List Nat} {wi wi2:TI} {g g2:TG} {tt tt2:TT} {te:TE}
theorem uz (hc:X.calm=true) (hN:X.N=N) (he:X.env.scope=esc) (B:BlkOk esc scope N fi) (hi:PI X tg iter wi)
  (hg:∀s H fp,PG (blk X scope (nB N os fi) s H fp) tg g) (ht:∀s H fp,PTs (blk X scope (nB N os fi) s H fp) ifs tt)
  (hi2:∀s H fp,PI (blk X scope (nB N os fi) s H fp) tg2 iter2 wi2) (hg2:∀s H fp,PG (blk X scope (nB N os fi) s H fp) tg2 g2) (ht2:∀s H fp,PTs (blk X scope (nB N os fi) s H fp) ifs2 tt2)
  (hel:∀s H fp,PE (blk X scope (nB N os fi) s H fp) elt te)
  (hs:∀x,foldedSetIterable iter X.env x=pure x:=by intro _; rfl) (hs2:∀env x,foldedSetIterable iter2 env x=pure x:=by intro _ _; rfl) :
  PE X (.ListComp elt [⟨tg,iter,ifs,0⟩,⟨tg2,iter2,ifs2,0⟩] scope pos) (tCG (fun _=>.lst []) os fi wi g tt fun D=>tIn wi2 g2 tt2 (pT D te)):=by
 refine iM (gs:=[⟨tg2,iter2,ifs2,0⟩]) (body:=fun D env=>pS (.ListComp elt [⟨tg,iter,ifs,0⟩,⟨tg2,iter2,ifs2,0⟩] scope pos) 1 iter2 (.ref D) env) rfl rfl hc hN he B gT (fz rfl rfl) (fun _ _ _=>rfl) jU hi hg ht (fun D s H fp=>?_) hs;exact Ah (body:=iL elt (.ref D) (blk X scope (nB N os fi) s H fp).env) gT (fz rfl rfl) hc rfl (fun _=>rfl) (hi2 s H fp) (hg2 s H fp) (ht2 s H fp) (mz rfl (hel s H fp)) (hs2 _)
end
def gr (ks:List Str):Key→Bool
 | .inr x=>decide (x∈ks)
 | _=>false
def gv (P:Program) (w:World) (a:Addr) (ks:List Str):HO:=.ext fun h=>h.SetOf (bu P w) a (gr ks) ks.length
def ku (x:Str) (ks:List Str):List Str:=if x∈ks then ks else ks ++ [x]
theorem mE {P:Program} {w:World} {H:Hp} {h:Heap} {a:Addr} {ks:List Str} (x:h.SetOf (bu P w) a (gr ks) ks.length):ObjOk P w H h a (gv P w a ks):=
 ⟨x,let ⟨o,_,_,_,e,_⟩:=x; ⟨o,e⟩,fun h1 h2 ⟨o,es,ep,t,e,r⟩ k=>⟨o,es,ep,t,k o e,r⟩⟩
theorem yV (x:Str) (ks:List Str):(fun k'=>gr ks k' || decide (k'=(.inr x:Key)))=gr (ku x ks):=by
 funext k
 cases k with
 | inl i=>simp [gr]
 | inr y=>
  unfold ku
  by_cases h:x∈ks
  ·rw [if_pos h];simp only [gr]
   by_cases e:y=x
   ·subst e; simp [h]
   ·simp [e]
  ·rw [if_neg h];simp [gr,List.mem_append,Bool.decide_or]
theorem wL (x:Str) (ks:List Str):(if gr ks (.inr x)=true then ks.length else ks.length + 1)=(ku x ks).length:=by
 unfold ku
 by_cases h:x∈ks
 ·rw [if_pos h,if_pos (show gr ks (.inr x)=true by simp [gr,h])]
 ·rw [if_neg h,if_neg (by simp [gr,h]),List.length_append]; rfl
section
variable {X:Cx} {pins:List (Addr × Obj)} {σ:St} {H:Hp} {s:Shared} {a:Addr} {ks:List Str}
theorem Inv.setOf (I:Inv X pins σ H s) (h:H a=some (gv X.prog X.w a ks)):s.heap.SetOf (bu X.prog X.w) a (gr ks) ks.length:=(I.hok a _ h).1
theorem Inv.setPut {h':Heap} {ks':List Str} {t':Nat} (I:Inv X pins σ H s) (h:H a=some (gv X.prog X.w a ks)) (sb:Heap.SameBut a s.heap h') (n:h'.SetOf (bu X.prog X.w) a (gr ks') ks'.length):Inv X pins σ (upd H a (gv X.prog X.w a ks')) {s with heap:=h',toks:=t'}:=
 I.write (x:=a) (e:=a) (by rw [h]; exact trivial) (.inl rfl) (fun b u hb e=>(sb.2 b hb).trans e) (let ⟨o,_,_,_,e,_⟩:=n; ⟨o,e⟩) (mE n)
theorem sj:dl X (.type "set") (fun xs H Q=>xs=[]∧∀p,H p=none→Q (.ref p) (upd H p (gv X.prog X.w p []))):=by
 intro pins s σ H xs us Q I r h;obtain ⟨rfl,q⟩:=h;cases r;refine call_set_0 fun led=>?_;have n:(s.heap.push {cls:=.type "set",dict:=none,data:=.set #[] 0 (.fresh 0 0 led)}).SetOf (bu X.prog X.w) s.heap.objs.size (gr []) ([]:List Str).length:=
  ⟨_,#[],0,_,Heap.get?_push_size _ rfl,⟨rfl,rfl,rfl⟩,rfl,fun e he=>by simp at he,fun k=>by cases k <;> simp [gr],by decide,by rfl,rfl⟩
 exact ⟨.ref s.heap.objs.size,_,I.laid (t':=s.toks) (fun b u e=>Heap.get?_push_of_some _ e) (Nat.le_refl _) (mE n),rfl,q _ I.fresh⟩
theorem boot_set:bootBuiltins "set" = some (.type "set"):=by decide +kernel
def AW (P:Program) (w:World) (neg:Bool):R2:=fun x y H Q=>∃z a ks,x = .str z∧y = .ref a∧H a=some (gv P w a ks)∧Q (.bl (if neg then !decide (z∈ks) else decide (z∈ks))) H
theorem sk:OpR X (compareOp .In) (AW X.prog X.w false):=by
 intro pins s σ H x y v u Q I rx ry h;obtain ⟨z,a,ks,rfl,rfl,ha,q⟩:=h;obtain ⟨t,rfl⟩:=rx;cases ry;exact wpAny_inSet_of (gw _ _ z t) rfl (I.setOf ha) ⟨.bl _,H,I.tok _,rfl,q⟩
def xX (P:Program) (w:World):V→List V→Hp→VK→Prop:=fun x xs H Q=>∃a z ks,x = .ref a∧xs=[.str z]∧H a=some (gv P w a ks)∧ks.length + 1 < 4096∧Q .non (upd H a (gv P w a (ku z ks)))
theorem lJ:MtR X "set.add" (xX X.prog X.w):=by
 intro pins s σ H x xs v us Q I rx rv h;obtain ⟨a,z,ks,rfl,rfl,ha,hz,q⟩:=h;cases rx;obtain ⟨u,rfl,t,rfl⟩:=vals1 rv;refine call_set_add (gw _ _ z t) rfl (I.setOf ha) hz fun h' sb n=>?_;rw [yV,wL] at n;exact ⟨.non,_,I.setPut ha sb n,rfl,q⟩
theorem ky:dl X (.builtin "len") (fun xs H Q=>∃a ks,xs=[.ref a]∧H a=some (gv X.prog X.w a ks)∧Q (.int ks.length) H):=by
 intro pins s σ H xs us Q I r h;obtain ⟨a,ks,rfl,ha,q⟩:=h;obtain ⟨u,rfl,rx⟩:=vals1 r;cases rx;obtain ⟨o,es,ep,t,e,ex,d,_,_,b,f,n⟩:=I.setOf ha;refine call_len_set e ex d f ?_ ⟨.int ks.length,H,I.tok _,⟨_,by rw [n]⟩,q⟩;have:es.size < 4096:=b;omega
end
def xY (P:Program) (w:World) (to:TE) (t:TA):TE:=fun σ H Q=>to σ H fun x H1=>(∃a ks,x = .ref a∧H1 a=some (gv P w a ks))∧t σ H1 fun xs H2=>xX P w x xs H2 Q
theorem su {X:Cx} {o e:Expr} {to:TE} {t:TA} {apos cpos:Pos} (ho:PE X o to) (ha:PA X [e] t)
  (hbase:attributeBase o "add" X.env (eval o X.env)=eval o X.env:=by rfl)
  (hfew:((backTo cpos (starEach [e] X.env)).all (fun x=>!x.1) && (backToKw cpos (keywordEach [] X.env)).all (fun x=>x.1.isSome)
   && decide ([e].length + ([]:List Keyword).length + (if ([]:List Keyword).isEmpty then 0 else 1) < 30))=true:=by rfl)
  (hline:(apos.endLine == cpos.line)=true:=by rfl) (hs:starEach [e] X.env=(false,eval e X.env) :: starEach [] X.env:=by rfl) (hplain:(backTo cpos (starEach [] X.env)).any (·.1)=false:=by rfl) :
  PE X (.Call (.Attribute o "add" apos) [e] [] cpos) (xY X.prog X.w to t):=by
 intro pins s σ H Q I h;refine wpAny_Call_method_late hbase hfew hline rfl (thn (ho pins s σ H _ I h) fun v s1 ⟨x,H1,I1,r1,⟨a,ks,ea,hA⟩,q1⟩=>?_);subst ea;cases r1;have S:=I1.setOf hA;refine ⟨"set","set.add",F.plainAttrs_set,F.slot_set_add,F.type_set_add,S.typeIs,S.noDict,?_⟩;have hA:=ha cpos pins s1 σ H1 _ I1 q1;rw [hs] at hA ⊢;refine Calls.callWith_builtin (by show (false || (backTo cpos (starEach [] X.env)).any (·.1))=false; rw [hplain] <;> rfl) (Calls.evalArgs_plain ?_);exact thn hA fun us s2 ⟨vs,H2,I2,r2,q2⟩=>lJ pins s2 σ H2 (.ref a) vs _ us Q I2 rfl r2 q2
theorem wM {X:Cx}:gU X (newSet (.type "set")) (fun a=>gv X.prog X.w a []):=by
 intro pins s σ H E Q I h;refine wpAny_newSet_of (knd:=bu X.prog X.w) fun led n=>?_;have n':(s.heap.push {cls:=.type "set",dict:=none,data:=.set #[] 0 (.fresh 0 0 led)}).SetOf (bu X.prog X.w) s.heap.objs.size (gr []) ([]:List Str).length:=by
  have e:(fun _:Key=>false)=gr []:=by
   funext k; cases k <;> simp [gr]
  rw [← e]; exact n
 exact h _ (fun b o e=>Heap.get?_push_of_some _ e) (I.laid (t':=s.toks) (fun b u e=>Heap.get?_push_of_some _ e) (Nat.le_refl _) (mE n'))
def qJ (elt:Expr) (acc:Value) (env:Env) (k:Sem Fi):Sem Fi:=(do let v ← eval elt env; standAt elt.pos; let _ ← call (.builtin "set.add") [acc,v]) >>= fun _=>k
def yW (P:Program) (w:World) (D:Addr) (te:TE):TB:=fun σ H N=>te σ H fun v H6=>∃z ks,v = .str z∧H6 D=some (gv P w D ks)∧ks.length + 1 < 4096∧N σ (upd H6 D (gv P w D (ku z ks)))
theorem yX {Y:Cx} {elt:Expr} {te:TE} {D:Addr} (hx:Y.xe=F0) (hel:PE Y elt te):PB Y (qJ elt (.ref D) Y.env) (yW Y.prog Y.w D te):=by
 intro pins s σ H N k R I h hk;have a1:=hel pins s σ H _ I h;rw [hx] at a1;refine wpAny_bind (wpAny_bind (bV a1 fun y sA ⟨v,HA,IA,rA,z,ks,ev,hD,hz,wA⟩=>wpAny_bind (wpAny_standAt (wpAny_bind ?_))));have a2:=lJ pins sA σ HA (.ref D) [v] (.ref D) [y] (fun _ H'=>N σ H') IA rfl (.cons rA .nil) ⟨D,z,ks,rfl,by rw [ev],hD,hz,wA⟩;rw [hx] at a2;exact bV a2 fun _ sB' ⟨_,HB,IB,_,wB⟩=>wpAny_pure (hk σ HB sB' IB wB)
section
variable {X:Cx} {elt tg iter:Expr} {ifs:List Expr} {scope esc:Scope} {pos:Pos} {N os:List Str} {fi:List Nat} {wi:TI} {g:TG} {tt:TT} {te:TE}
theorem pU (hc:X.calm=true) (hN:X.N=N) (he:X.env.scope=esc) (B:BlkOk esc scope N fi) (hi:PI X tg iter wi)
  (hg:∀s H fp,PG (blk X scope (nB N os fi) s H fp) tg g) (ht:∀s H fp,PTs (blk X scope (nB N os fi) s H fp) ifs tt)
  (hel:∀s H fp,PE (blk X scope (nB N os fi) s H fp) elt te)
  (hs:∀x,foldedSetIterable iter X.env x=pure x:=by intro _; rfl) :
  PE X (.SetComp elt [⟨tg,iter,ifs,0⟩] scope pos) (tCG (fun a=>gv X.prog X.w a []) os fi wi g tt fun D=>yW X.prog X.w D te):=
 iM (gs:=[]) (body:=fun D env=>qJ elt (.ref D) env) rfl rfl hc hN he B uy (si rfl rfl) (fun _ _ _=>rfl) wM hi hg ht (fun D s H fp=>yX rfl (hel s H fp)) hs
end
section
variable {X:Cx} {tg:Expr}
end
def Ai (K:PySem.W.Frag) (te:TE):TE:=fun σ H Q=>te σ H fun x H1=>∃a xs,x = .ref a∧SqL K H1 a xs∧∀p,H1 p=none→Q (.ref p) (upd H1 p (.lst xs.reverse))
theorem yY {X:Cx} {e:Expr} {te:TE} {k:Nat} {p1 p2 p3 pos:Pos} (he:PE X e te):PE X (.Subscript e (.Slice none none (some (.UnaryOp .USub (.Constant (.int 1) k p1) p3)) p2) pos) (Ai X.K te):=by
 intro pins s σ H Q I h;refine Subscript_ (thn (he pins s σ H _ I h) fun v s1 ⟨x,H1,I1,r1,q1⟩=>?_);obtain ⟨a,xs,rfl,hx,q⟩:=q1;cases r1;have st:=qE (xS i7 (bz (X:=X) (i:=1) (j:=k) (pos:=p1)) (pos:=p3));refine wpAny_Slice ?_;rw [evalPart_none];refine wpAny_pure (wpAny_pure ?_);refine thn (st pins s1 σ H1 (fun o H'=>o=some (-1)∧H'=H1) I1 ⟨_,rfl,_,rfl,rfl,rfl⟩) fun vs s3 ⟨o,H3,I3,pp,e1,e2⟩=>?_;subst e1;rw [e2] at I3;clear e2;have I4:Inv X pins σ H1 {s3 with heap:=s3.heap.push {cls:=.type "slice",data:=.fields #[.none,.none,vs]}}:=I3.kept (t':=s3.toks) fun b ob q=>Heap.get?_push_of_some _ q;obtain ⟨its,r,ht,hz⟩:=I4.list hx;show wpAny (model X.prog X.w) X.A (subscriptTail e (.Slice none none (some (.UnaryOp .USub (.Constant (.int 1) k p1) p3)) p2) (.ref a) (.ref s3.heap.objs.size)) (EP X pins σ Q) X.xe {s3 with heap:=s3.heap.push {cls:=.type "slice",data:=.fields #[.none,.none,vs]}};refine tail_any (ops:=[.ref a,.ref s3.heap.objs.size]) ht.isList.typeIs slot_list_getitem.lookup ?_ (by with_unfolding_all rfl);refine wpAny_getItem_list_slice ht.isList (Heap.IsSliceOf.new ..) .none .none pp (by simp) ?_ (by rw [List.size_toArray,← r.length]; omega);rw [PySem.W.krv_pick];refine ⟨.ref _,_,I4.laid (t':=s3.toks) (o:=.lst xs.reverse) (fun b ob q=>Heap.get?_push_of_some _ q) (Nat.le_refl _) ?_,rfl,q _ (I4.hok.fresh (Nat.le_refl _))⟩;exact ⟨by rw [List.length_reverse]; exact hz,_,0,r.reverse,Heap.get?_push_size _ rfl⟩
inductive TopR (K:PySem.W.Frag) (H:Hp) (R:V→V→Bool→Prop):V→V→Bool→Prop where
 | lsts {a c:Addr} {xs ys:List V} (e:Nat→Bool) (ha:SqL K H a xs) (hc:SqL K H c ys) (hl:xs.length=ys.length) (h:∀j x y,xs[j]? = some x→ys[j]? = some y→R x y (e j)):TopR K H R (.ref a) (.ref c) ((List.range xs.length).all e)
 | lens {a c:Addr} {xs ys:List V} (ha:SqL K H a xs) (hc:SqL K H c ys) (hl:xs.length≠ys.length):TopR K H R (.ref a) (.ref c) false
 | tups {a c:Addr} {xs ys:List V} (e:Nat→Bool) (ha:SqT K H a xs) (hc:SqT K H c ys) (h:∀j x y,xs[j]? = some x→ys[j]? = some y→R x y (e j)):TopR K H R (.ref a) (.ref c) ((List.range (min xs.length ys.length)).all e && xs.length == ys.length)
def EqD (K:PySem.W.Frag) (H:Hp):Nat→V→V→Bool→Prop
 | 0,x,y,b=>(cA x=true∧cA y=true∧b=eqV x y)∨∃a,x = .ref a∧y = .ref a∧b=true
 | n + 1,x,y,b=>((cA x=true∧cA y=true∧b=eqV x y)∨∃a,x = .ref a∧y = .ref a∧b=true)∨∃a c,x = .ref a∧y = .ref c∧a≠c∧TopR K H (EqD K H n) x y b
section
variable {X:Cx} {pins:List (Addr × Obj)} {σ:St} {H:Hp} {s:Shared}
theorem jE {R:V→V→Bool→Prop} {A:Around} {xs ys:List V} {us vs:List Value} {e:Nat→Bool} (hR:∀x y b u v,R x y b→RelV x u→RelV y v→SeqAt.EqAt A s u v b) (r1:Vals xs us) (r2:Vals ys vs) (h:∀j x y,xs[j]? = some x→ys[j]? = some y→R x y (e j)) :
  ∀j (h1:j < us.toArray.size) (h2:j < vs.toArray.size),SeqAt.EqAt A s us.toArray[j] vs.toArray[j] (e j):=fun j h1 h2=>by
 have l1:j < xs.length:=by rw [r1.length]; simpa using h1
 have l2:j < ys.length:=by rw [r2.length]; simpa using h2
 obtain ⟨u,q1,z1⟩:=r1.get (i:=j) (x:=xs[j]) (by simp [l1]);obtain ⟨v,q2,z2⟩:=r2.get (i:=j) (x:=ys[j]) (by simp [l2]);have e1:us.toArray[j]=u:=by
  have:us[j]? = some us.toArray[j]:=by simp
  rw [this] at q1; exact Option.some.inj q1
 have e2:vs.toArray[j]=v:=by
  have:vs[j]? = some vs.toArray[j]:=by simp
  rw [this] at q2; exact Option.some.inj q2
 rw [e1,e2];exact hR _ _ _ _ _ (h j _ _ (by simp [l1]) (by simp [l2])) z1 z2
theorem uA {R:V→V→Bool→Prop} {A:Around} {x y:V} {b:Bool} {u v:Value} (I:Inv X pins σ H s) (hu:A.units < cLine) (hR:∀x y b u v,R x y b→RelV x u→RelV y v→SeqAt.EqAt A.in1 s u v b) (h:TopR X.K H R x y b) (rx:RelV x u) (ry:RelV y v):SeqAt.RcAt A s u v b:=by
 cases h with
 | lsts e ha hc hl h=>
  cases rx;cases ry;obtain ⟨its,r1,p1,_⟩:=I.list ha;obtain ⟨its2,r2,p2,_⟩:=I.list hc;have z:=SeqAt.RcAt.lists (A:=A) p1.isList p2.isList (by rw [List.size_toArray,List.size_toArray,← r1.length,← r2.length]; exact hl) hu (jE hR r1 r2 h);rw [List.size_toArray,← r1.length] at z;exact z
 | lens ha hc hl=>
  cases rx;cases ry;obtain ⟨its,r1,p1,_⟩:=I.list ha;obtain ⟨its2,r2,p2,_⟩:=I.list hc;exact SeqAt.RcAt.lists_lengths (A:=A) p1.isList p2.isList (by rw [List.size_toArray,List.size_toArray,← r1.length,← r2.length]; simpa using hl) hu
 | tups e ha hc h=>
  cases rx;cases ry;obtain ⟨its,r1,p1,_⟩:=I.tuple ha;obtain ⟨its2,r2,p2,_⟩:=I.tuple hc;have z:=SeqAt.RcAt.tuples (A:=A) (show s.heap.IsTuple _ its.toArray from p1) (show s.heap.IsTuple _ its2.toArray from p2) hu (jE hR r1 r2 h);rw [List.size_toArray,List.size_toArray,← r1.length,← r2.length] at z;exact z
theorem qK {A:Around} {x y:V} {b:Bool} {u v:Value} (h:(cA x=true∧cA y=true∧b=eqV x y)∨∃a,x = .ref a∧y = .ref a∧b=true) (rx:RelV x u) (ry:RelV y v):SeqAt.EqAt A s u v b:=by
 rcases h with ⟨f1,f2,rfl⟩ | ⟨a,rfl,rfl,rfl⟩
 ·exact pL rx ry f1 f2
 ·cases rx;cases ry;exact SeqAt.EqAt.same _
theorem pV (I:Inv X pins σ H s):∀(n:Nat) (A:Around),A.units + n < cLine→∀(x y:V) (b:Bool) (u v:Value),EqD X.K H n x y b→RelV x u→RelV y v→SeqAt.EqAt A s u v b
 | 0,A,hu,x,y,b,u,v,h,rx,ry=>qK h rx ry
 | n + 1,A,hu,x,y,b,u,v,h,rx,ry=>by
  rcases h with h | ⟨a,c,rfl,rfl,ne,h⟩
  ·exact qK h rx ry
  ·cases rx;cases ry;exact SeqAt.EqAt.of_refs ne (uA I (by omega) (pV I n A.in1 (by show A.units + 1 + n < cLine; omega)) h rfl rfl)
def Aj (K:PySem.W.Frag) (neg:Bool):R2:=fun x y H Q=>∃n b,n≤40∧TopR K H (EqD K H n) x y b∧Q (.bl (if neg then !b else b)) H
theorem mK (hu:X.A.units + 60 < cLine):OpR X (compareOp .Eq) (Aj X.K false):=by
 intro pins s σ H x y v u Q I rx ry h;obtain ⟨n,b,hn,h,q⟩:=h;exact uA I (by omega) (pV I n X.A.in1 (by show X.A.units + 1 + n < cLine; omega)) h rx ry _ _ _ _ ⟨.bl _,H,I,rfl,q⟩
theorem jW (hu:X.A.units + 60 < cLine):OpR X (compareOp .NotEq) (Aj X.K true):=by
 intro pins s σ H x y v u Q I rx ry h;obtain ⟨n,b,hn,h,q⟩:=h;have hR:=pV I n X.A.in1 (by show X.A.units + 1 + n < cLine; omega);have hu':X.A.units < cLine:=by omega
 cases h with
 | lsts e ha hc hl h=>
  cases rx;cases ry;obtain ⟨its,r1,p1,_⟩:=I.list ha;obtain ⟨its2,r2,p2,_⟩:=I.list hc;refine SeqAt.RcNeAt.lists (A:=X.A) p1.isList p2.isList (by rw [List.size_toArray,List.size_toArray,← r1.length,← r2.length]; exact hl) hu' (jE hR r1 r2 h) _ _ _ _ ?_;rw [List.size_toArray,← r1.length];exact ⟨.bl _,H,I,rfl,q⟩
 | lens ha hc hl=>
  cases rx;cases ry;obtain ⟨its,r1,p1,_⟩:=I.list ha;obtain ⟨its2,r2,p2,_⟩:=I.list hc;exact SeqAt.RcNeAt.lists_lengths (A:=X.A) p1.isList p2.isList (by rw [List.size_toArray,List.size_toArray,← r1.length,← r2.length]; simpa using hl) hu' _ _ _ _ ⟨.bl _,H,I,rfl,q⟩
 | tups e ha hc h=>
  cases rx;cases ry;obtain ⟨its,r1,p1,_⟩:=I.tuple ha;obtain ⟨its2,r2,p2,_⟩:=I.tuple hc;refine SeqAt.RcNeAt.tuples (A:=X.A) (show s.heap.IsTuple _ its.toArray from p1) (show s.heap.IsTuple _ its2.toArray from p2) hu' (jE hR r1 r2 h) _ _ _ _ ?_;rw [List.size_toArray,List.size_toArray,← r1.length,← r2.length];exact ⟨.bl _,H,I,rfl,q⟩
end
theorem Room.units60 {k:Nat} {A:Around} (r:Room k A):A.units + 60 < cLine:=by have:=r.un; omega
def HF (q:Program):List Str→Prop
 | []=>True
 | n :: ns=>(∃d,(recsOf q).find? (fun e=>e.name == n)=some d)∧HF q ns
def HC (K:PySem.W.Frag):List Str→Prop
 | []=>True
 | n :: ns=>(∃f c T fd,CodeN K n f c T fd)∧HC K ns
def HT0 (K:PySem.W.Frag):List Str→Prop
 | []=>True
 | n :: ns=>K.lookup (iy K n)=none∧HT0 K ns
theorem HF.mem {q:Program}:∀{ns:List Str},HF q ns→∀n∈ns,∃d,(recsOf q).find? (fun e=>e.name == n)=some d
 | [],_,n,h=>nomatch h
 | _ :: _,h,n,hn=>by
  rcases List.mem_cons.mp hn with rfl | hn
  ·exact h.1
  ·exact HF.mem h.2 n hn
theorem HC.mem {K:PySem.W.Frag}:∀{ns:List Str},HC K ns→∀n∈ns,∃f c T fd,CodeN K n f c T fd
 | [],_,n,h=>nomatch h
 | _ :: _,h,n,hn=>by
  rcases List.mem_cons.mp hn with rfl | hn
  ·exact h.1
  ·exact HC.mem h.2 n hn
theorem HT0.mem {K:PySem.W.Frag}:∀{ns:List Str},HT0 K ns→∀n∈ns,K.lookup (iy K n)=none
 | [],_,n,h=>nomatch h
 | _ :: _,h,n,hn=>by
  rcases List.mem_cons.mp hn with rfl | hn
  ·exact h.1
  ·exact HT0.mem h.2 n hn
theorem uB (names:List Str) {l:PySem.W.OpenLaw} {n k:Nat} {q:Program} {loose:List Str} {XP:(Str→Option Value)→Heap→Prop} {YP:World→Heap→Prop} {d:DefRec} {K:Params→PySem.W.Frag} {CX:World→CXT} {sp:World→Sp} {x:Str}
  (hn:l.most=some n) (hn2:n≤sizeLine) (hdf:d.params.defaults=[]) (hr:Room k callerA)
  (hY:∀(w:World) (h:Heap),YP w h→(K w.params).In h) (hf:HF q names) (hC:∀w:World,HC (K w.params) names) (hKT:∀w:World,HT0 (K w.params) names)
  (F:∀(w:World) (mg:Str→Option Value) (fa:Addr) (h:Heap),(K w.params).In h→h.Ns mainGlobals mg→mg d.name=some (.ref fa)→
   ∃fd:FuncData,(∀(s:Shared) (u:Value),BindsTo s fd ⟨[u],[]⟩ [(x,u)])∧
    ∀base:Heap,(K w.params).In base→base.Ns mainGlobals mg→kr mg base→FnOk l.prog w (K w.params) mg base (CX w) k fa fd [x] (sp w))
  (hsp:∀(w:World) (H:Hp) (a:Addr) (ns:List Int),ns.length≤n→(∀m∈names,H (iy (K w.params) m)=some (.tbl #[]))→SqL (K w.params) H a (ns.map V.int)→sp w [.ref a] H (fun v _=>v = .bl true) fun _ _ _=>False)
  (hCX:∀(w:World) (H:Hp) (s:Shared) (e:Value) (s':Shared),CX w [] H s (fun _ _ _=>False) e s'→False) :
  PySem.W.WalkO q loose XP YP l.row.toRowW d [] (fun f vs=>PySem.call f vs):=by
 refine uw (Ts:=fun w=>names.map fun m=>(ux (K w.params) m,iy (K w.params) m)) hn hn2 hdf hr hY ?_ ?_ F ?_ hCX
 ·intro w h lo mean mg mb KX Tp t ht;obtain ⟨m,hm,rfl⟩:=List.mem_map.mp ht;obtain ⟨f,c,T,fd,C⟩:=(hC w).mem m hm;obtain ⟨d,hd⟩:=hf.mem m hm;exact C.tab KX Tp hd
 ·intro w t ht;obtain ⟨m,hm,rfl⟩:=List.mem_map.mp ht;exact (hKT w).mem m hm
 ·intro w H a ns hl hO hS;exact hsp w H a ns hl (fun m hm=>hO.tab _ (List.mem_map.mpr ⟨m,hm,rfl⟩)) hS
section
variable {κ:Type} [DecidableEq κ]
def cW (kvs:List (κ × V)) (k:κ):Option V:=(kvs.find? fun kv=>decide (kv.1=k)).map (·.2)
def gC (kvs:List (κ × V)) (k:κ) (v:V):List (κ × V):=
 if (kvs.any fun kv=>decide (kv.1=k))=true then kvs.map (fun kv=>if kv.1=k then (kv.1,v) else kv) else kvs ++ [(k,v)]
theorem cN {p:κ × V} {r:List (κ × V)} {k:κ} (e:p.1=k):cW (p :: r) k=some p.2:=by simp [cW,List.find?_cons,e]
theorem cO {p:κ × V} {r:List (κ × V)} {k:κ} (e:¬p.1=k):cW (p :: r) k=cW r k:=by simp [cW,List.find?_cons,e]
theorem gD (k:κ):∀kvs:List (κ × V),(kvs.any fun kv=>decide (kv.1=k))=(cW kvs k).isSome
 | []=>rfl
 | p :: r=>by
  rw [List.any_cons]
  by_cases e:p.1=k
  ·simp only [cN e,decide_eq_true e,Bool.true_or,Option.isSome_some]
  ·rw [cO e,decide_eq_false e,Bool.false_or]; exact gD k r
theorem ot (k j:κ) (y:V):∀kvs:List (κ × V),cW (kvs.map fun kv=>if kv.1=k then (kv.1,y) else kv) j=(cW kvs j).map fun x=>if j=k then y else x
 | []=>rfl
 | p :: r=>by
  have ih:=ot k j y r;rw [List.map_cons]
  by_cases h:p.1=k
  ·rw [if_pos h]
   by_cases e:p.1=j
   ·rw [cN (p:=(p.1,y)) e,cN e,Option.map_some,if_pos (e.symm.trans h)]
   ·rw [cO (p:=(p.1,y)) e,cO e,ih]
  ·rw [if_neg h]
   by_cases e:p.1=j
   ·rw [cN (p:=p) e,cN e,Option.map_some,if_neg (fun z=>h (e.trans z))]
   ·rw [cO (p:=p) e,cO e,ih]
theorem lK (k j:κ) (y:V):∀kvs:List (κ × V),cW kvs k=none→cW (kvs ++ [(k,y)]) j=if j=k then some y else cW kvs j
 | [],_=>by
  by_cases e:k=j
  ·rw [if_pos e.symm]; exact cN (p:=(k,y)) e
  ·rw [if_neg (fun z=>e z.symm)]; exact cO (p:=(k,y)) e
 | p :: r,hn=>by
  rw [List.cons_append];have hk:¬p.1=k:=fun z=>by rw [cN z] at hn; cases hn
  rw [cO hk] at hn;have ih:=lK k j y r hn
  by_cases e:p.1=j
  ·rw [cN e,cN e,if_neg (fun z=>hk (e.trans z))]
  ·rw [cO e,cO e,ih]
theorem uC (kvs:List (κ × V)) (k j:κ) (y:V):cW (gC kvs k y) j=if j=k then some y else cW kvs j:=by
 unfold gC
 by_cases a:(kvs.any fun kv=>decide (kv.1=k))=true
 ·rw [if_pos a,ot];rw [gD] at a
  by_cases e:j=k
  ·obtain ⟨x,hx⟩:=Option.isSome_iff_exists.mp a;rw [if_pos e,e,hx,Option.map_some,if_pos rfl]
  ·rw [if_neg e];cases cW kvs j with
   | none=>rfl
   | some x=>rw [Option.map_some,if_neg e]
 ·rw [if_neg a];refine lK k j y kvs ?_;rw [gD] at a;cases q:cW kvs k with
  | none=>rfl
  | some x=>rw [q] at a; exact (a rfl).elim
theorem eG (kvs:List (κ × V)) (k:κ) (v:V):(gC kvs k v).length≤kvs.length + 1:=by
 unfold gC
 split
 ·rw [List.length_map]; omega
 ·rw [List.length_append,List.length_cons,List.length_nil]; omega
theorem ou {kvs:List (κ × V)} {k:κ} (v:V) (h:cW kvs k=none):gC kvs k v=kvs ++ [(k,v)]:=by
 unfold gC;rw [gD,h];exact if_neg (by decide)
theorem RelO.isSome_eq {o:Option V} {u:Option Value} (r:RelO o u):o.isSome=u.isSome:=by
 cases o with
 | none=>cases u with
  | none=>rfl
  | some _=>exact (show False from r).elim
 | some _=>cases u with
  | none=>exact (show False from r).elim
  | some _=>rfl
theorem KV.val {kvs:List (κ × V)} {vs:List (κ × Value)} (r:KV kvs vs) (k:κ):RelO (cW kvs k) (valueAt vs k):=by
 unfold KV at r
 induction r with
 | nil=>exact True.intro
 | @cons p q ps qs h t ih=>
  obtain ⟨h1,h2⟩:=h
  by_cases e:p.1=k
  ·have e':q.1=k:=h1.symm.trans e;have b:valueAt (q :: qs) k=some q.2:=by simp [valueAt,List.find?_cons,e']
   rw [cN e,b]; exact h2
  ·have e':¬q.1=k:=fun z=>e (h1.trans z);have b:valueAt (q :: qs) k=valueAt qs k:=by simp [valueAt,List.find?_cons,e']
   rw [cO e,b]; exact ih
theorem KV.any {kvs:List (κ × V)} {vs:List (κ × Value)} (r:KV kvs vs) (k:κ):(kvs.any fun kv=>decide (kv.1=k))=vs.any fun kv=>decide (kv.1=k):=by
 unfold KV at r
 induction r with
 | nil=>rfl
 | cons h t ih=>rw [List.any_cons,List.any_cons,ih,h.1]
theorem KV.repl {kvs:List (κ × V)} {vs:List (κ × Value)} (r:KV kvs vs) (k:κ) {y:V} {u:Value} (ry:RelV y u) :
  KV (kvs.map fun kv=>if kv.1=k then (kv.1,y) else kv) (vs.map fun kv=>if kv.1=k then (kv.1,u) else kv):=by
 unfold KV at r ⊢
 induction r with
 | nil=>exact .nil
 | @cons p q ps qs h t ih=>
  rw [List.map_cons,List.map_cons];refine .cons ?_ ih;obtain ⟨h1,h2⟩:=h
  by_cases e:p.1=k
  ·rw [if_pos e,if_pos (h1.symm.trans e)]; exact ⟨h1,ry⟩
  ·rw [if_neg e,if_neg (fun z=>e (h1.trans z))]; exact ⟨h1,h2⟩
theorem KV.put {kvs:List (κ × V)} {vs:List (κ × Value)} (r:KV kvs vs) (k:κ) {y:V} {u:Value} (ry:RelV y u):KV (gC kvs k y) (stored vs k u):=by
 unfold gC stored;rw [r.any k]
 by_cases e:(vs.any fun kv=>decide (kv.1=k))=true
 ·rw [if_pos e,if_pos e]; exact r.repl k ry
 ·rw [if_neg e,if_neg e]; exact Paired.snoc r ⟨rfl,ry⟩
theorem KV.length {kvs:List (κ × V)} {vs:List (κ × Value)} (r:KV kvs vs):kvs.length=vs.length:=Paired.length r
end
theorem ow {P:Program} {w:World} {k:Key} {u:Value} (r:RelV (kV k) u):(bu P w).is k u=true:=by
 cases k with
 | inl i=>obtain ⟨t,e⟩:=(show ∃t,u=Value.int i t from r); subst e; exact nM P w i t
 | inr x=>obtain ⟨t,e⟩:=(show ∃t,u=Value.str x t from r); subst e; exact gw P w x t
theorem lM {P:Program} {w:World}:∀{ks:List Key} {us:List Value},Vals (ks.map kV) us→ItemsAre (bu P w) ks us
 | [],_,r=>by rw [List.map_nil] at r; cases r; exact .nil
 | k :: ks,_,r=>by
  rw [List.map_cons] at r;cases r with
  | cons h t=>exact .cons (ow h) (lM t)
abbrev KT (H:Hp):List (List Key × V)→List (List Key × Addr × Value)→Prop:=Paired fun p q=>p.1=q.1∧H q.2.1=some (.tup (p.1.map kV))∧RelV p.2 q.2.2
theorem KT.val {H:Hp} {kvs:List (List Key × V)} {xs:List (List Key × Addr × Value)} (r:KT H kvs xs) (k:List Key):RelO (cW kvs k) ((atKey xs k).map (·.2)):=by
 induction r with
 | nil=>exact True.intro
 | @cons p q ps qs h t ih=>
  obtain ⟨h1,_,h2⟩:=h
  by_cases e:p.1=k
  ·have e':q.1=k:=h1.symm.trans e;have b:atKey (q :: qs) k=some q.2:=by simp [atKey,List.find?_cons,e']
   rw [cN e,b]; exact h2
  ·have e':¬q.1=k:=fun z=>e (h1.trans z);have b:atKey (q :: qs) k=atKey qs k:=by simp [atKey,List.find?_cons,e']
   rw [cO e,b]; exact ih
theorem KT.repl {H:Hp} {kvs:List (List Key × V)} {xs:List (List Key × Addr × Value)} (r:KT H kvs xs) (k:List Key) {y:V} {u:Value} (ry:RelV y u) :
  KT H (kvs.map fun kv=>if kv.1=k then (kv.1,y) else kv) (xs.map (putAt k u)):=by
 induction r with
 | nil=>exact .nil
 | @cons p q ps qs h t ih=>
  rw [List.map_cons,List.map_cons];refine .cons ?_ ih;obtain ⟨h1,h2,h3⟩:=h;unfold putAt
  by_cases e:p.1=k
  ·rw [if_pos e,if_pos (h1.symm.trans e)]; exact ⟨h1,h2,ry⟩
  ·rw [if_neg e,if_neg (fun z=>e (h1.trans z))]; exact ⟨h1,h2,h3⟩
theorem KT.put {H:Hp} {kvs:List (List Key × V)} {xs:List (List Key × Addr × Value)} (r:KT H kvs xs) (k:List Key) {b:Addr} {y:V} {u:Value} (hb:H b=some (.tup (k.map kV))) (ry:RelV y u) :
  KT H (gC kvs k y) (storedH xs k b u):=by
 have e:(kvs.any fun kv=>decide (kv.1=k))=(atKey xs k).isSome:=by
  rw [gD,(r.val k).isSome_eq,Option.isSome_map]
 unfold gC storedH;rw [e]
 by_cases q:(atKey xs k).isSome=true
 ·rw [if_pos q,if_pos q]; exact r.repl k ry
 ·rw [if_neg q,if_neg q]; exact Paired.snoc r ⟨rfl,hb,ry⟩
theorem KT.keeps {H H':Hp} {kvs:List (List Key × V)} {xs:List (List Key × Addr × Value)} (r:KT H kvs xs) (ht:∀b ys,H b=some (.tup ys)→H' b=some (.tup ys)):KT H' kvs xs:=
 Paired.mapP r fun _ _ z=>⟨z.1,ht _ _ z.2.1,z.2.2⟩
section
variable {P:Program} {w:World} {H:Hp} {h:Heap} {a:Addr}
theorem xZ {u:HO} (ok:HOk P w H h) (e:Rd H a u):ObjOk P w H h a u:=e.ok ok
theorem oy {kvs:List (Key × V)} (ok:HOk P w H h) (e:Rd H a (.dK kvs)):kvs.length≤sizeLine∧(a == sysModules)=false∧∃vs,KV kvs vs∧h.DictOf (bu P w) a vs:=
 show ObjOk P w H h a (.dK kvs) from xZ ok e
theorem x9 {kvs:List (Key × V)} (ok:HOk P w H h) (e:H a=some (.dK kvs)):kvs.length≤sizeLine∧(a == sysModules)=false∧∃vs,KV kvs vs∧h.DictOf (bu P w) a vs:=oy ok (.inl e)
theorem mQ {ks:List Key} (ok:HOk P w H h) (e:H a=some (.tup (ks.map kV))):(tupleKind (bu P w)).is h ks a:=by
 obtain ⟨_,its,r,o,h1,h2,n,h3⟩:=(show ObjOk P w H h a (.tup (ks.map kV)) from ok a _ e);exact ⟨o,its.toArray,n,h1,h2,h3,by simpa using lM r⟩
theorem qL {kvs:List (List Key × V)} (ok:HOk P w H h) (e:Rd H a (.dT kvs)):kvs.length≤sizeLine∧(a == sysModules)=false∧
  ∃xs,KT H kvs xs∧h.DictOfH (tupleKind (bu P w)) a xs:=by
 obtain ⟨z,y,xs,r,o,es,ep,h1,h2,h3,h4,h5⟩:=(show ObjOk P w H h a (.dT kvs) from xZ ok e);refine ⟨z,y,xs,r,o,es,ep,h1,h2,h3,h4,fun x hx=>?_,h5⟩;have all:∀{l:List (List Key × V)} {m:List (List Key × Addr × Value)},KT H l m→∀x∈m,(tupleKind (bu P w)).is h x.1 x.2.1:=by
  intro l m q
  induction q with
  | nil=>intro x hx; exact nomatch hx
  | @cons p q ps qs hq t ih=>
   intro x hx;rcases List.mem_cons.mp hx with e | hx
   ·subst e;exact mQ ok (by rw [← hq.1]; exact hq.2.1)
   ·exact ih x hx
 exact all r x hx
theorem Ak {kvs:List (List Key × V)} (ok:HOk P w H h) (e:H a=some (.dT kvs)):kvs.length≤sizeLine∧(a == sysModules)=false∧
  ∃xs,KT H kvs xs∧h.DictOfH (tupleKind (bu P w)) a xs:=qL ok (.inl e)
end
def DGet (H:Hp) (a:Addr) (y:V) (r:Option V):Prop:=
 (∃kvs k,Rd H a (.dK kvs)∧y=kV k∧r=cW kvs k)∨∃kvs k b,Rd H a (.dT kvs)∧y = .ref b∧H b=some (.tup (k.map kV))∧r=cW kvs k
def DPut (H:Hp) (a:Addr) (y v:V) (H':Hp):Prop:=
 (∃kvs k,H a=some (.dK kvs)∧y=kV k∧kvs.length < sizeLine∧H'=upd H a (.dK (gC kvs k v)))∨
 ∃kvs k b,H a=some (.dT kvs)∧y = .ref b∧H b=some (.tup (k.map kV))∧kvs.length < sizeLine∧H'=upd H a (.dT (gC kvs k v))
theorem DGet.k {H:Hp} {a:Addr} {kvs:List (Key × V)} {k:Key} (e:H a=some (.dK kvs)):DGet H a (kV k) (cW kvs k):=.inl ⟨kvs,k,.inl e,rfl,rfl⟩
theorem DPut.k {H:Hp} {a:Addr} {kvs:List (Key × V)} {k:Key} {v:V} (e:H a=some (.dK kvs)) (hl:kvs.length < sizeLine):DPut H a (kV k) v (upd H a (.dK (gC kvs k v))):=.inl ⟨kvs,k,e,rfl,hl,rfl⟩
section
variable {X:Cx} {pins:List (Addr × Obj)} {σ:St} {H:Hp} {s:Shared} {a:Addr} {y v:V} {u r:Value} {o:Option V} {A:Around} {E:Value→Shared→Prop}
theorem sv {Q:Value→Shared→Prop} (hu:A.units + 1 < cLine) (I:Inv X pins σ H s) (g:DGet H a y (some v)) (ry:RelV y u) (h:∀w' s',Inv X pins σ H s'→RelV v w'→Q w' s') :
  wpAny (model X.prog X.w) A (getItem (.ref a) u) Q E s:=by
 rcases g with ⟨kvs,k,e,ey,l⟩ | ⟨kvs,k,b,e,ey,eb,l⟩
 ·subst ey;obtain ⟨z,hd,vs,rel,dd⟩:=oy I.hok e;obtain ⟨w',hw,rw'⟩:=RelO.some_of (v:=v) (o:=valueAt vs k) (by rw [l]; exact rel.val k);exact wpAny_getItem_of (ow ry) dd.mapOf hw (h w' _ (I.tok _) rw')
 ·subst ey;cases (show u=Value.ref b from ry);obtain ⟨z,hd,xs,rel,dd⟩:=qL I.hok e;obtain ⟨w',hw,rw'⟩:=RelO.some_of (v:=v) (o:=(atKey xs k).map (·.2)) (by rw [l]; exact rel.val k);obtain ⟨p,hp,hp2⟩:=Option.map_eq_some_iff.mp hw;refine wpAny_getItem_heap (tupleKind_room_in1 hu) (mQ I.hok eb) dd hp ?_;rw [hp2];exact h w' _ (I.tok _) rw'
theorem AX {Q:Value→Shared→Prop} (hu:A.units + 1 < cLine) (I:Inv X pins σ H s) (g:DGet H a y o) (ry:RelV y u) (h:∀s',Inv X pins σ H s'→Q (.bool o.isSome) s') :
  wpAny (model X.prog X.w) A (compareOp .In u (.ref a)) Q E s:=by
 rcases g with ⟨kvs,k,e,ey,l⟩ | ⟨kvs,k,b,e,ey,eb,l⟩
 ·subst ey;obtain ⟨z,hd,vs,rel,dd⟩:=oy I.hok e;refine wpAny_in_of (ow ry) hd dd.mapOf ?_;rw [← (rel.val k).isSome_eq,← l];exact h _ (I.tok _)
 ·subst ey;cases (show u=Value.ref b from ry);obtain ⟨z,hd,xs,rel,dd⟩:=qL I.hok e;refine wpAny_in_heap (tupleKind_room_in1 hu) (mQ I.hok eb) hd dd ?_;have q:=(rel.val k).isSome_eq;rw [Option.isSome_map] at q;rw [← q,← l];exact h _ (I.tok _)
theorem mV {h':Heap} {t':Nat} {ob:HO} (I:Inv X pins σ H s) (mu:Mut (H a)) (hs:Heap.SameBut a s.heap h') (he:∃q,h'.get? a=some q) (new:ObjOk X.prog X.w (upd H a ob) h' a ob) :
  Inv X pins σ (upd H a ob) {s with heap:=h',toks:=t'}:=
 I.write (x:=a) (e:=a) mu (.inl rfl) (fun b q hb z=>(hs.2 b hb).trans z) he new
theorem uD {P:Program} {w:World} {H':Hp} {h':Heap} {kvs:List (Key × V)} {vs:List (Key × Value)} (z:kvs.length≤sizeLine) (hd:(a == sysModules)=false) (rel:KV kvs vs) (dd:h'.DictOf (bu P w) a vs) :
  ObjOk P w H' h' a (.dK kvs):=⟨z,hd,vs,rel,dd⟩
theorem sw {H':Hp} {Q:Unit→Shared→Prop} (hu:A.units + 1 < cLine) (I:Inv X pins σ H s) (g:DPut H a y v H') (ry:RelV y u) (rv:RelV v r) (h:∀s',Inv X pins σ H' s'→Q () s') :
  wpAny (model X.prog X.w) A (setItem (.ref a) u r) Q E s:=by
 rcases g with ⟨kvs,k,e,ey,l,eH⟩ | ⟨kvs,k,b,e,ey,eb,l,eH⟩
 ·subst ey eH;obtain ⟨z,hd,vs,rel,dd⟩:=x9 I.hok e;have hz:vs.length≤sizeLine:=by rw [← rel.length]; exact z
  have hl:(gC kvs k v).length≤sizeLine:=by have:=eG kvs k v; omega
  refine wpAny_setItem_pairs (hsz:=hz) (ow ry) dd fun h' dd' hs=>h _ ?_;have he:∃q,h'.get? a=some q:=let ⟨q,_,_,hq,_⟩:=dd'; ⟨q,hq⟩;exact mV I (by rw [e]; exact True.intro) hs he (uD hl hd (rel.put k rv) dd')
 ·subst ey eH;cases (show u=Value.ref b from ry);obtain ⟨z,hd,xs,rel,dd⟩:=Ak I.hok e;have hz:xs.length≤sizeLine:=by rw [← Paired.length rel]; exact z
  have hl:(gC kvs k v).length≤sizeLine:=by have:=eG kvs k v; omega
  refine wpAny_setItem_heap (hsz:=hz) (tupleKind_room_in1 hu) (mQ I.hok eb) dd fun h' dd' hs=>h _ ?_;obtain ⟨q,es,ep,hq,h2,h3,h4,_,h5⟩:=dd';refine mV I (by rw [e]; exact True.intro) hs ⟨q,hq⟩ ⟨hl,hd,_,(rel.put k eb rv).keeps fun c ys ec=>?_,q,es,ep,hq,h2,h3,h4,h5⟩;rw [am (zK ec e (fun z=>nomatch z))];exact ec
end
section
variable {X:Cx} {pins:List (Addr × Obj)} {σ:St} {H:Hp} {s:Shared} {a:Addr} {kvs:List (Key × V)} {k:Key} {u:Value} {A:Around} {E:Value→Shared→Prop}
theorem Al {Q:Value→Shared→Prop} (I:Inv X pins σ H s) (e:Rd H a (.dK kvs)) (h:∀t s',Inv X pins σ H s'→Q (.int kvs.length t) s'):wpAny (model X.prog X.w) A (call (.builtin "len") [.ref a]) Q E s:=by
 obtain ⟨z,hd,vs,rel,dd⟩:=oy I.hok e;refine call_len_dict hd dd (by rw [← rel.length]; rw [sizeLine_eq] at z; omega) ?_;rw [← rel.length];exact h _ _ (I.tok _)
end
def yZ (i:Expr):Prop:=∀ov iv,subscripted i false ov iv=operate [ov,iv] (getItem ov iv)
theorem wN {prog:Program} {w:World} {A:Around} {E:Value→Shared→Prop} {s:Shared} {env:Env} {value slice:Expr} {pos:Pos} {T id:String} {Q:Value→Shared→Prop}
  (hl:typeLookup (.type T) "__getitem__" = pure (some (.builtin id))) (hs:yZ slice)
  (h:wpAny (model prog w) A (eval value env) (fun o s₁=>wpAny (model prog w) A (eval slice env) (fun i s₂=>s₂.TypeIs o T∧wpAny (model prog w) A (getItem o i) Q E s₂) E s₁) E s) :
  wpAny (model prog w) A (eval (.Subscript value slice pos) env) Q E s:=by
 refine Subscript_ (wpAny_mono h (fun o s₁ h₁=>wpAny_mono h₁ (fun i s₂ h₂=>?_) fun _ _ x=>x) fun _ _ x=>x);obtain ⟨hT,h₂⟩:=h₂;unfold subscriptTail;refine wpAny_bind ?_;rw [getitemInPython_of_ne hT.not_modules];refine wpAny_bind (wpAny_specialOf hT hl ?_);have fin:wpAny (model prog w) A (subscripted slice false o i) (fun r s₃=>wpAny (model prog w) A (letTemporaryGo value o r >>= fun _=>pure r) Q E s₃) E s₂:=by
  rw [hs o i];exact wpAny_operating (wpAny_mono h₂ (fun r s₃ h₃=>wpAny_bind (wpAny_letTemporaryGo (wpAny_pure h₃))) fun _ _ x=>x)
 first
  | exact wpAny_pure (wpAny_bind fin)
  | exact wpAny_bind (wpAny_pure (wpAny_bind fin))
  | exact wpAny_bind fin
theorem oz {X:Cx} {pins:List (Addr × Obj)} {σ:St} {H:Hp} {s:Shared} {a:Addr} {y:V} {o:Option V} (I:Inv X pins σ H s) (g:DGet H a y o):s.TypeIs (.ref a) "dict":=by
 rcases g with ⟨kvs,k,e,_,_⟩ | ⟨kvs,k,b,e,_,_,_⟩
 ·obtain ⟨_,_,vs,_,dd⟩:=oy I.hok e;exact dd.typeIs
 ·obtain ⟨_,_,xs,_,dd⟩:=qL I.hok e;exact dd.typeIs
def ya (td ty:TE):TE:=fun σ H Q=>td σ H fun x H1=>ty σ H1 fun y H2=>∃a v,x = .ref a∧DGet H2 a y (some v)∧Q v H2
def Am (ty td:TE):TE:=fun σ H Q=>ty σ H fun y H1=>td σ H1 fun x H2=>∃a o,x = .ref a∧DGet H2 a y o∧Q (.bl o.isSome) H2
def yb (td ty tv:TE):TS:=fun D σ H=>tv σ H fun v H1=>td σ H1 fun x H2=>ty σ H2 fun y H3=>∃a H4,x = .ref a∧DPut H3 a y v H4∧D.nx σ H4
section
variable {X:Cx} {o i e value:Expr} {pos pos' tpos:Pos} {td ty tv:TE}
theorem wO (hu:X.A.units + 1 < cLine) (ho:PE X o td) (hi:PE X i ty) (hs:yZ i):PE X (.Subscript o i pos) (ya td ty):=by
 intro pins s σ H Q I h;refine wN PySem.F.slot_dict_getitem.lookup hs (thn (ho pins s σ H _ I h) fun u s1 ⟨x,H1,I1,rx,q1⟩=>thn (hi pins s1 σ H1 _ I1 q1) fun iv s2 ⟨y,H2,I2,ry,a,v,ex,g,q2⟩=>?_);subst ex;obtain rfl:u=Value.ref a:=rx;exact ⟨oz I2 g,sv hu I2 g ry fun w' s3 I3 rw'=>⟨v,H2,I3,rw',q2⟩⟩
theorem y9 (hu:X.A.units + 1 < cLine) (hi:PE X i ty) (ho:PE X o td):PC X .In i o (Am ty td):=by
 intro pins s σ H Q I h;refine thn (hi pins s σ H _ I h) fun iv s1 ⟨y,H1,I1,ry,q1⟩=>thn (ho pins s1 σ H1 _ I1 q1) fun u s2 ⟨x,H2,I2,rx,a,ov,ex,g,q2⟩=>?_;subst ex;obtain rfl:u=Value.ref a:=rx;exact AX hu I2 g ry fun s3 I3=>⟨.bl ov.isSome,H2,I3,rfl,q2⟩
theorem wP (hu:X.A.units + 1 < cLine) (ho:PE X o td) (hi:PE X i ty) (hv:PE X value tv) (hs:swapsWith value (some (.Subscript o i pos')) pos.line X.env=pure false) :
  PS X (.Assign [.Subscript o i pos'] value pos) (yb td ty tv):=by
 intro pins s σ H D I h;refine wpAny_Assign_Subscript (thn (hv pins s σ H _ I h) fun r s1 ⟨v,H1,I1,rv,q1⟩=>thn (ho pins s1 σ H1 _ I1 q1) fun u s2 ⟨x,H2,I2,rx,q2⟩=>thn (hi pins s2 σ H2 _ I2 q2) fun iv s3 ⟨y,H3,I3,ry,a,H4,ex,g,q3⟩=>?_) hs;subst ex;obtain rfl:u=Value.ref a:=rx;exact sw hu I3 g ry rv fun s4 I4=>⟨σ,H4,I4,q3⟩
end
section
variable {X:Cx} {pos:Pos}
end
section
variable {X:Cx} {pins:List (Addr × Obj)} {σ:St} {H:Hp} {s:Shared} {a:Addr} {y d:V} {u r:Value} {o:Option V} {A:Around} {E:Value→Shared→Prop}
end
section
variable {X:Cx} {o e f:Expr} {apos cpos:Pos} {td ty tx:TE}
end
section
variable {X:Cx} {pins:List (Addr × Obj)} {σ:St} {H:Hp} {s:Shared} {a:Addr} {kvs:List (Key × V)} {A:Around} {E:Value→Shared→Prop}
end
section
variable {X:Cx} {pins:List (Addr × Obj)} {σ:St} {H:Hp} {s:Shared} {a:Addr} {y:V} {u:Value} {A:Around} {E:Value→Shared→Prop}
end
section
variable {κ:Type} [DecidableEq κ]
end
def eR (z:Str) (lo hi:Option Int):Str:=⟨((z.cps.toList.drop (HT.sIx z.length 0 lo)).take (HT.sIx z.length z.length hi - HT.sIx z.length 0 lo)).toArray⟩
theorem za (n d:Nat) (hd:d≤n) (v:Option Int):HT.sIx n d v≤n:=by
 cases v with
 | none=>exact hd
 | some i=>
  show (if i < 0 then (i + (n:Int)).toNat else min i.toNat n)≤n
  by_cases h:i < 0
  ·rw [if_pos h]; omega
  ·rw [if_neg h]; omega
theorem uE (z:Str) (lo hi:Option Int):(Builtin.Str.strSliceIndices lo hi 1 z.length).filterMap (z.cps[·]?)=(z.cps.toList.drop (HT.sIx z.length 0 lo)).take (HT.sIx z.length z.length hi - HT.sIx z.length 0 lo)∧
  (Builtin.Str.strSliceIndices lo hi 1 z.length).length=HT.sIx z.length z.length hi - HT.sIx z.length 0 lo:=by
 obtain ⟨h1,h2,h3⟩:=iG lo hi z.length;have e:Builtin.Str.strSliceIndices lo hi 1 z.length=sliceRange (sliceBounds lo hi none z.length).1 (sliceBounds lo hi none z.length).2.1 (sliceBounds lo hi none z.length).2.2:=rfl;rw [e,h1,h2,h3,sliceRange_one];exact ⟨pick_run _ _ _,by simp⟩
theorem iN (z:Str) (lo hi:Option Int):(eR z lo hi).length≤z.length:=by
 unfold eR Str.length;simp;omega
section
variable {X:Cx}
theorem part_of {v:Value} {o:Option Int} (h:IsPart v o):∃p:Option (Int × Tok),v=partValue p∧p.map (·.1)=o:=by
 cases h with
 | none=>exact ⟨none,rfl,rfl⟩
 | int i t=>exact ⟨some (i,t),rfl,rfl⟩
def AY:V→Option Int→Option Int→Hp→VK→Prop:=fun x lo hi H Q=>∃z,x = .str z∧z.length≤sizeLine∧Q (.str (eR z lo hi)) H
theorem jX:SlR X AY:=by
 intro pins s σ H x v vl vu lo hi sl Q I rx hs pl pu h;obtain ⟨z,rfl,hz,q⟩:=h;obtain ⟨t,rfl⟩:=rx;obtain ⟨l,rfl,el⟩:=part_of pl;obtain ⟨u,rfl,eu⟩:=part_of pu;subst el eu;refine ⟨"str",_,PySem.F.slot_str_getitem.lookup,typeIs_str s z t,?_⟩;refine wpAny_getItem_str_slice (l:=l) (u:=u) (st:=none) hs rfl ?_;obtain ⟨p1,p2⟩:=uE z (l.map (·.1)) (u.map (·.1));have pk:slicePicked z l u none=Builtin.Str.strSliceIndices (l.map (·.1)) (u.map (·.1)) 1 z.length:=rfl;unfold sliceMade;rw [pk]
 split
 ·rename_i hh
  have len:(Builtin.Str.strSliceIndices (l.map (·.1)) (u.map (·.1)) 1 z.length).length=z.length:=by
   have:=(Bool.and_eq_true _ _ ▸ hh:_∧_).2;exact eq_of_beq this
  have e:eR z (l.map (·.1)) (u.map (·.1))=z:=by
   rw [p2] at len;unfold eR;rw [len];have sz:z.cps.toList.length=z.length:=by simp [Str.length]
   by_cases h0:z.length=0
   ·have:z.cps.toList=[]:=List.length_eq_zero_iff.mp (by rw [sz]; exact h0);rw [this,h0];cases z with
    | mk c=>
     have:c = #[]:=Array.size_eq_zero_iff.mp h0;rw [this]; rfl
   ·have hb:HT.sIx z.length z.length (u.map (·.1))≤z.length:=za _ _ (Nat.le_refl _) _;have ha:HT.sIx z.length 0 (l.map (·.1))=0:=by omega
    rw [ha,List.drop_zero,List.take_of_length_le (by omega)]
  rw [e] at q;exact ⟨.str z,H,I,⟨t,rfl⟩,q⟩
 ·rw [p1];exact ⟨by
   show ((List.take _ (List.drop _ z.cps.toList)).toArray).size≤_;have:=iN z (l.map (·.1)) (u.map (·.1));exact Nat.le_trans this hz,.str _,H,I.tok _,⟨_,rfl⟩,q⟩
end
theorem uF {X:Cx}:gU X newDict (fun _=>.dK []):=by
 intro pins s σ H E Q I h;refine wpAny_newObj_type ?_;have new:ObjOk X.prog X.w (upd H s.heap.objs.size (.dK [])) (s.heap.push {cls:=.type "dict",data:=.dict #[]}) s.heap.objs.size (.dK []):=
  ⟨Nat.zero_le _,beq_eq_false_iff_ne.mpr (Ne.symm (Nat.ne_of_lt I.above)),[],.nil,Heap.DictOf.new s.heap⟩
 exact h _ (fun b o e=>Heap.get?_push_of_some _ e) (I.laid (t':=s.toks) (fun b u e=>Heap.get?_push_of_some _ e) (Nat.le_refl _) new)
def oA (kx vx:Expr) (D:Addr) (env:Env) (k:Sem Fi):Sem Fi:=(do
 let kv ← eval kx env
 let vv ← holding [kv] (eval vx env)
 standAt {kx.pos with endLine:=vx.pos.endLine,endCol:=vx.pos.endCol}
 holding [kv,vv] (dictSet D kv vv)) >>= fun _=>k
def zb (D:Addr) (tk tv:TE):TB:=fun σ H N=>tk σ H fun y H1=>tv σ H1 fun v H2=>∃k kvs,y=kV k∧H2 D=some (.dK kvs)∧kvs.length < sizeLine∧N σ (upd H2 D (.dK (gC kvs k v)))
theorem wQ {Y:Cx} {kx vx:Expr} {tk tv:TE} {D:Addr} (hx:Y.xe=F0) (hk:PE Y kx tk) (hv:PE Y vx tv):PB Y (oA kx vx D Y.env) (zb D tk tv):=by
 intro pins s σ H N k R I h hh;have a1:=hk pins s σ H _ I h;rw [hx] at a1;refine wpAny_bind (wpAny_bind (bV a1 fun u s1 ⟨y,H1,I1,ry,q1⟩=>wpAny_bind (wpAny_holding ?_)));have a2:=hv pins s1 σ H1 _ I1 q1;rw [hx] at a2;refine bV a2 fun r s2 ⟨v,H2,I2,rv,kk,kvs,ey,hD,hz,n2⟩=>wpAny_bind (wpAny_standAt (wpAny_holding ?_));subst ey;obtain ⟨z,hd,vs,rel,dd⟩:=x9 I2.hok hD;have hz':vs.length≤sizeLine:=by rw [← rel.length]; exact z
 have hl:(gC kvs kk v).length≤sizeLine:=by have:=eG kvs kk v; omega
 refine wpAny_dictSet_pairs (hsz:=hz') (ow ry) dd fun h' dd' hs=>?_;have he:∃q,h'.get? D=some q:=let ⟨q,_,_,hq,_⟩:=dd'; ⟨q,hq⟩;exact hh σ _ _ (mV I2 (by rw [hD]; exact True.intro) hs he (uD hl hd (rel.put kk rv) dd')) n2
section
variable {X:Cx} {kx vx tg iter:Expr} {ifs:List Expr} {scope esc:Scope} {pos:Pos} {N os:List Str} {fi:List Nat} {wi:TI} {g:TG} {tt:TT} {tk tv:TE}
theorem oB (hc:X.calm=true) (hN:X.N=N) (he:X.env.scope=esc) (B:BlkOk esc scope N fi) (hi:PI X tg iter wi)
  (hg:∀s H fp,PG (blk X scope (nB N os fi) s H fp) tg g) (ht:∀s H fp,PTs (blk X scope (nB N os fi) s H fp) ifs tt)
  (hk:∀s H fp,PE (blk X scope (nB N os fi) s H fp) kx tk) (hv:∀s H fp,PE (blk X scope (nB N os fi) s H fp) vx tv)
  (hs:∀x,foldedSetIterable iter X.env x=pure x:=by intro _; rfl) :
  PE X (.DictComp kx vx [⟨tg,iter,ifs,0⟩] scope pos) (tCG (fun _=>.dK []) os fi wi g tt fun D=>zb D tk tv):=
 iM (gs:=[]) (body:=fun D env=>oA kx vx D env) rfl rfl hc hN he B sh (pR rfl rfl) (fun _ _ _=>rfl) uF hi hg ht (fun D s H fp=>wQ rfl (hk s H fp) (hv s H fp)) hs
end
end L2
namespace PySem
namespace F
end F
section
variable {prog:Program} {w:World} {K:Type} [DecidableEq K] {knd:KeyKind prog w K} {A:Around} {R:Result→Shared→Prop}
end
section
variable {prog:Program} {w:World} {K:Type} [DecidableEq K] {knd:KeyKind prog w K} {A:Around} {E:Value→Shared→Prop} {s:Shared}
end
end PySem
namespace L2
open PySem
section
variable {X:Cx}
end
end L2
namespace L2
open PySem PySem.Spec PyProof.Rows
section
variable {X:Cx}
theorem ik:MtR X "str.startswith" (fun x xs H Q=>∃z y,x = .str z∧xs=[.str y]∧Q (.bl (Txt.startswith z y)) H):=by
 intro pins s σ H x xs v us Q I rx rv h;obtain ⟨z,y,rfl,rfl,q⟩:=h;obtain ⟨t,rfl⟩:=rx;obtain ⟨u,rfl,t2,rfl⟩:=vals1 rv;exact SC.startswith ⟨.bl _,H,I,rfl,q⟩
end
section
variable {X:Cx} {pins:List (Addr × Obj)} {σ:St} {H:Hp} {s:Shared} {scope esc:Scope} {os:List Str} {fi:List Nat} {fp:List Addr}
end
section
variable {X:Cx} {e tg iter:Expr} {ifs:List Expr} {scope esc:Scope} {pos:Pos} {N os:List Str} {fi:List Nat} {wi:TI} {g:TG} {tt:TT} {tb:Addr→TB} {body:Addr→Env→Sem Fi→Sem Fi} {o0:Addr→HO} {mk:Sem Value} {p:Pos}
end
section
variable {X:Cx} {elt kx vx tg iter tg2 iter2:Expr} {ifs ifs2:List Expr} {scope esc:Scope} {pos:Pos} {N os:List Str} {fi:List Nat} {wi wi2:TI} {g g2:TG} {tt tt2:TT} {te tk tv:TE}
end
section
variable {X:Cx}
end
section
variable {prog:Program} {w:World} {A:Around} {E:Value→Shared→Prop} {s:Shared}
end
section
variable {X:Cx} {tg:Expr}
end
section
variable {X:Cx} {e tg iter:Expr} {ifs:List Expr} {scope esc:Scope} {pos:Pos} {N os:List Str} {fi:List Nat} {wi:TI} {g:TG} {tt:TT} {tb:Addr→TB} {body:Addr→Env→Sem Fi→Sem Fi} {o0:Addr→HO} {mk:Sem Value} {p:Pos}
theorem uG {gs:List Comprehension} {i:Nat} {y:Str} {py spos p':Pos} (hev:∀use:Option (Value→Sem Unit),True) (hex:exec (.Assign [.Name y py] e spos) X.env=(do standAt spos; let _ ← (do let _ ← comprehension e scope X.env p' mk false (eval iter X.env) (some (assign (.Name y py) X.env))); pure .next)) (hcl:clausesOf e=⟨tg,iter,ifs,0⟩ :: gs) (hc:X.calm=true) (hN:X.N=N) (he:X.env.scope=esc) (B:BlkOk esc scope N fi)
  (hL:dC X.prog X.w X.A e 0) (hS:dq X.prog X.w X.A e 0) (hT:∀(it D:Addr) (env:Env),compTurn e 0 (.ref it) (.ref D) env=je tg p ifs (.ref it) env (body D env) (again (.compLoop e 0 (.ref it) (.ref D) env)))
  (hmk:gU X mk o0) (hnd:X.N.Nodup) (hy:X.N[i]? = some y) (hl:Loc X.env.scope y) (hi:PI X tg iter wi)
  (hg:∀s H fp,PG (blk X scope (nB N os fi) s H fp) tg g) (ht:∀s H fp,PTs (blk X scope (nB N os fi) s H fp) ifs tt) (hb:∀D s H fp,PB (blk X scope (nB N os fi) s H fp) (body D (blk X scope (nB N os fi) s H fp).env) (tb D))
  (hfn:X.fn y=true∨X.env.scope.names.lookup y=some .local:=by first | exact .inl rfl | exact .inr rfl | assumption)
  (hs:∀x,foldedSetIterable iter X.env x=pure x:=by intro _; rfl):PS X (.Assign [.Name y py] e spos) (fun D σ H=>tCG o0 os fi wi g tt tb σ H fun v H'=>D.nx (σ.set i (some v)) H'):=by
 intro pins s σ H D I h;have cells:=dQ (by rw [hN]; exact B) he I;rw [hex];refine wpAny_bind (wpAny_standAt (wpAny_bind ?_));refine wpAny_bind (thn (wpAny_comprehension_free (use:=some (assign (.Name y py) X.env)) (Q:=fun _ s'=>SP X pins D .next s') hcl hs (dY cells) B.kind B.loc (thn (hi pins s σ H _ I h) fun v s1 h1=>thn h1 fun itv s2 h2=>?_)) fun _ _ z=>wpAny_pure (wpAny_pure z));obtain ⟨it,fp,tn,J,H2,rfl,I2,T,st2,f2,q2⟩:=h2;refine jV (Q:=fun v H'=>D.nx (σ.set i (some v)) H') (RR:=fun acc C=>compPost (model X.prog X.w) X.A X.xe (some (assign (.Name y py) X.env)) (fun _ s'=>SP X pins D .next s') acc C) hc hN he B hL hS hT hmk hg ht hb I2 T st2 f2 q2 ?_;intro Dl s3 H3 s' σ' H' I3 f3 I' q;have J':Inv X pins σ H' s':=jD I3 f3 I' (Heap.SameBut.refl ..);show wpAny _ _ (assign (.Name y py) X.env (.ref Dl)) _ _ s';refine wpAny_assign_Name (i5 (v:=.ref Dl) J' hnd hy hl rfl (fun s'' J'' sb=>?_) hfn);obtain ⟨a,sb,ha⟩:=sb;have cL:s3.heap.objs.size≠X.env.locals:=Nat.ne_of_gt I3.lt;have cC:∀x c,X.env.cells.lookup x=some c→c≠s3.heap.objs.size:=fun x c e=>by
  obtain ⟨v,ic⟩:=I3.cell x c e;exact Nat.ne_of_lt ic.lt
 have ca:s3.heap.objs.size≠a:=by
  rcases ha with z | z
  ·rw [z]; exact cL
  ·exact (cC _ _ z).symm
 obtain ⟨m,hn,_⟩:=I'.loc;have hn'':s''.heap.Ns s3.heap.objs.size m:=by
  obtain ⟨o,es,ep,ho,r⟩:=hn;exact ⟨o,es,ep,(sb.2 _ ca).trans ho,r⟩
 refine ⟨m,hn'',fun h' sb'=>⟨σ.set i (some (.ref Dl)),H',?_,q⟩⟩;exact J''.turned (t':=s''.toks) (it:=s3.heap.objs.size) (fun b o hb e=>(sb'.2 b hb).trans e) I'.free cL (.inr I3.sz) cC fun p hp=>Nat.ne_of_lt (Heap.lt_size (I3.pin p hp).1)
end
section
variable {X:Cx} {elt kx vx tg iter tg2 iter2:Expr} {ifs ifs2:List Expr} {scope esc:Scope} {pos:Pos} {N os:List Str} {fi:List Nat} {wi wi2:TI} {g g2:TG} {tt tt2:TT} {te tk tv:TE}
theorem uH (hc:X.calm=true) (hN:X.N=N) (he:X.env.scope=esc) (B:BlkOk esc scope N fi) (hi:PI X tg iter wi)
  (hg:∀s H fp,PG (blk X scope (nB N os fi) s H fp) tg g) (ht:∀s H fp,PTs (blk X scope (nB N os fi) s H fp) ifs tt)
  (hel:∀s H fp,PE (blk X scope (nB N os fi) s H fp) elt te)
  (hs:∀x,foldedSetIterable iter X.env x=pure x:=by intro _; rfl) :
  PE X (.ListComp elt [⟨tg,iter,ifs,0⟩] scope pos) (tCG (fun _=>.lst []) os fi wi g tt fun D=>pT D te):=
 iM (gs:=[]) (body:=fun D env=>iL elt (.ref D) env) rfl rfl hc hN he B gT (fz rfl rfl) (fun _ _ _=>rfl) jU hi hg ht (fun D s H fp=>mz rfl (hel s H fp)) hs
theorem uI {i:Nat} {y:Str} {py spos:Pos} (hc:X.calm=true) (hN:X.N=N) (he:X.env.scope=esc) (B:BlkOk esc scope N fi) (hnd:X.N.Nodup) (hy:X.N[i]? = some y) (hl:Loc X.env.scope y) (hi:PI X tg iter wi)
  (hg:∀s H fp,PG (blk X scope (nB N os fi) s H fp) tg g) (ht:∀s H fp,PTs (blk X scope (nB N os fi) s H fp) ifs tt) (hel:∀s H fp,PE (blk X scope (nB N os fi) s H fp) elt te)
  (hsw:swapsWith (.ListComp elt [⟨tg,iter,ifs,0⟩] scope pos) (some (.Name y py)) spos.line X.env=pure true:=by rfl)
  (hfn:X.fn y=true∨X.env.scope.names.lookup y=some .local:=by first | exact .inl rfl | exact .inr rfl | assumption)
  (hs:∀x,foldedSetIterable iter X.env x=pure x:=by intro _; rfl):PS X (.Assign [.Name y py] (.ListComp elt [⟨tg,iter,ifs,0⟩] scope pos) spos) (fun D σ H=>tCG (fun _=>.lst []) os fi wi g tt (fun D=>pT D te) σ H fun v H'=>D.nx (σ.set i (some v)) H'):=
 uG (gs:=[]) (body:=fun D env=>iL elt (.ref D) env) (fun _=>trivial) (exec_Assign_Name_used _ _ _ _ hsw) rfl hc hN he B gT (fz rfl rfl) (fun _ _ _=>rfl) jU hnd hy hl hi hg ht (fun D s H fp=>mz rfl (hel s H fp)) hfn hs
end
theorem de {K:PySem.W.Frag} {S:Addr} {xs:List V} {g:TG} {tt:TT} {tb:TB} {σ:St} {H:Hp} {N:St→Hp→Prop} (Pv:Nat→St→Hp→Prop) (h0:Pv 0 σ H) (hS:∀i σ H,Pv i σ H→SqL K H S xs)
  (step:∀(i:Nat) (x:V) (σ:St) (H:Hp) (C:St→Hp→Prop),xs[i]? = some x→Pv i σ H→(∀σ' H',Pv (i + 1) σ' H'→C σ' H')→g x σ H fun σ4 H4=>tt σ4 H4 fun ok H5=>if ok=true then tb σ4 H5 C else C σ4 H5)
  (fin:∀σ H,Pv xs.length σ H→N σ H):LR (Itl K S) g tt tb σ H N:=by
 refine ⟨fun i m σ H=>m=xs.length - i∧i≤xs.length∧Pv i σ H,⟨_,rfl,Nat.zero_le _,h0⟩,?_⟩;rintro i m σ2 H2 ⟨rfl,hi,p⟩;have sq:=hS i σ2 H2 p
 by_cases hlt:i < xs.length
 ·refine .inr ⟨⟨xs,_,sq,List.getElem?_eq_getElem hlt⟩,?_⟩;rintro x H3 ⟨rfl,hx⟩;exact step i x σ2 H3 _ (hx _ sq) p fun σ' H' p'=>⟨xs.length - (i + 1),by omega,rfl,hlt,p'⟩
 ·have e:i=xs.length:=by omega
  subst e;exact .inl ⟨⟨xs,sq,Nat.le_refl _⟩,fin σ2 H2 p⟩
theorem zd {H:Hp} {a:Addr} {o:HO} {H':Hp} (h:upd H a o=H') (n:H a=none):Same H H'∧H' a=some o∧∀b,b≠a→H' b=H b:=by
 subst h;exact ⟨fun b u e=>by rw [am (ak e n)]; exact e,ai,fun b hb=>am hb⟩
theorem aZ {H:Hp} {a:Addr} {o:HO} {H':Hp} {C:Prop} (h:upd H a o=H') (n:H a=none) (k:Same H H'→H' a=some o→(∀b,b≠a→H' b=H b)→C):C:=
 k (zd h n).1 (zd h n).2.1 (zd h n).2.2
theorem oC {lo:Int} {n:Nat} {g:TG} {tt:TT} {tb:TB} {σ:St} {H:Hp} {N:St→Hp→Prop} (Pv:Nat→St→Hp→Prop) (h0:Pv 0 σ H)
  (step:∀(i:Nat) (σ:St) (H:Hp) (C:St→Hp→Prop),i < n→Pv i σ H→(∀σ' H',Pv (i + 1) σ' H'→C σ' H')→g (.int (lo + i)) σ H fun σ4 H4=>tt σ4 H4 fun ok H5=>if ok=true then tb σ4 H5 C else C σ4 H5)
  (fin:∀σ H,Pv n σ H→N σ H):LR (Itr lo n) g tt tb σ H N:=by
 refine ⟨fun i m σ H=>m=n - i∧i≤n∧Pv i σ H,⟨_,rfl,Nat.zero_le _,h0⟩,?_⟩;rintro i m σ2 H2 ⟨rfl,hi,p⟩
 by_cases hlt:i < n
 ·refine .inr ⟨hlt,?_⟩;rintro x H3 ⟨rfl,rfl⟩;exact step i σ2 H3 _ hlt p fun σ' H' p'=>⟨n - (i + 1),by omega,rfl,hlt,p'⟩
 ·have e:i=n:=by omega
  subst e;exact .inl ⟨Nat.le_refl _,fin _ _ p⟩
theorem zg {K:PySem.W.Frag} {S:Addr} {xs:List V} {g:TG} {tt:TT} {tb:TB} {σ:St} {H:Hp} {N:St→Hp→Prop} (Pv:Nat→St→Hp→Prop) (h0:Pv 0 σ H) (hS:∀i σ H,Pv i σ H→SqT K H S xs)
  (step:∀(i:Nat) (x:V) (σ:St) (H:Hp) (C:St→Hp→Prop),xs[i]? = some x→Pv i σ H→(∀σ' H',Pv (i + 1) σ' H'→C σ' H')→g x σ H fun σ4 H4=>tt σ4 H4 fun ok H5=>if ok=true then tb σ4 H5 C else C σ4 H5)
  (fin:∀σ H,Pv xs.length σ H→N σ H):LR (Itt K S) g tt tb σ H N:=by
 refine ⟨fun i m σ H=>m=xs.length - i∧i≤xs.length∧Pv i σ H,⟨_,rfl,Nat.zero_le _,h0⟩,?_⟩;rintro i m σ2 H2 ⟨rfl,hi,p⟩;have sq:=hS i σ2 H2 p
 by_cases hlt:i < xs.length
 ·refine .inr ⟨⟨xs,_,sq,List.getElem?_eq_getElem hlt⟩,?_⟩;rintro x H3 ⟨rfl,hx⟩;exact step i x σ2 H3 _ (hx _ sq) p fun σ' H' p'=>⟨xs.length - (i + 1),by omega,rfl,hlt,p'⟩
 ·have e:i=xs.length:=by omega
  subst e;exact .inl ⟨⟨xs,sq,Nat.le_refl _⟩,fin σ2 H2 p⟩
theorem wR {K:PySem.W.Frag} {S:Addr} {xs:List V} {g:TG} {tt:TT} {tb:TB} {σ:St} {H:Hp} {N:St→Hp→Prop} (Pv:Nat→St→Hp→Prop) (h0:Pv 0 σ H) (hS:∀i σ H,Pv i σ H→SqL K H S xs)
  (step:∀(i:Nat) (x:V) (t:Addr) (σ:St) (H:Hp) (C:St→Hp→Prop),xs[i]? = some x→Pv i σ H→H t=none→(∀σ' H',Pv (i + 1) σ' H'→C σ' H')→g (.ref t) σ (upd H t (.tup [.int i,x])) fun σ4 H4=>tt σ4 H4 fun ok H5=>if ok=true then tb σ4 H5 C else C σ4 H5)
  (fin:∀σ H,Pv xs.length σ H→N σ H):LR (Ite K S) g tt tb σ H N:=by
 refine ⟨fun i m σ H=>m=xs.length - i∧i≤xs.length∧Pv i σ H,⟨_,rfl,Nat.zero_le _,h0⟩,?_⟩;rintro i m σ2 H2 ⟨rfl,hi,p⟩;have sq:=hS i σ2 H2 p
 by_cases hlt:i < xs.length
 ·refine .inr ⟨⟨xs,_,sq,List.getElem?_eq_getElem hlt⟩,?_⟩;rintro x H3 ⟨t,y,n,rfl,hy,rfl⟩;exact step i y t σ2 H2 _ (hy _ sq) p n fun σ' H' p'=>⟨xs.length - (i + 1),by omega,rfl,hlt,p'⟩
 ·have e:i=xs.length:=by omega
  subst e;exact .inl ⟨⟨xs,sq,Nat.le_refl _⟩,fin σ2 H2 p⟩
end L2
namespace L2
open PySem
end L2
namespace L2
open PySem PySem.Spec PyProof.Rows
section
variable {pr:Program} {wd:World} {Ar:Around} {Rs:Result→Shared→Prop} {J:Addr} {fo wo:List Addr} {Ge:Array GenState→Array GenState→Prop} {m:Nat} {Pv:Nat→Value→Prop} {Sa:Nat→Shared→Prop}
end
section
variable {pr:Program} {wd:World} {Ar:Around} {Ex:Value→Shared→Prop} {s:Shared}
end
section
variable {X:Cx}
end
section
variable {prog:Program} {w:World} {A:Around} {E:Value→Shared→Prop} {s:Shared} {z TI TO i1 i2:Addr} {n1 n2 k:Nat} {P1 P2:Nat→Value→Prop} {St1 St2:Nat→Heap→Prop} {fp1 fp2:List Addr} {a b:Value}
end
section
variable {prog:Program} {w:World} {A:Around} {E:Value→Shared→Prop} {s:Shared}
end
section
variable {X:Cx} {es:List Expr} {tk:Nat} {tpos:Pos}
end
section
variable {X:Cx} {tg:Expr}
end
end L2
namespace L2
open PySem PySem.Spec PyProof.Rows PySem.W
theorem Inv.many {X:Cx} {pins:List (Addr × Obj)} {σ:St} {H H':Hp} {s:Shared} {h':Heap} {t':Nat} (I:Inv X pins σ H s) (k:∀b u,s.heap.get? b=some u→h'.get? b=some u) (old:∀b,b < s.heap.objs.size→H' b=H b)
  (new:∀b o,s.heap.objs.size≤b→H' b=some o→ObjOk X.prog X.w H' h' b o):Inv X pins σ H' {s with heap:=h',toks:=t'}:=by
 have up:∀b o,H b=some o→H' b=some o:=fun b o e=>by rw [old b (I.hok.lt e)]; exact e
 refine I.un ⟨fun b u q _ _ _=>k b u q,fun b u q _ _ _=>⟨u.slots,k b u q⟩,fun b u q n _=>by rw [old b (Heap.lt_size q)]; exact n,fun b u q _=>⟨u,k b u q⟩,fun b xs q=>up b _ q,fun b u xs q=>up b _ q,fun b ps q=>⟨#[],by rw [up b _ q]; simp⟩⟩ ?_;intro b o e;rcases Nat.lt_or_ge b s.heap.objs.size with z | z
 ·rw [old b z] at e;exact (I.hok b o e).stay (fun c v _ q=>k c v q) (fun c q=>up c _ q) fun c xs q=>up c _ q
 ·exact new b o z e
theorem lN:∀as:List Addr,Vals (as.map V.ref) (as.map Value.ref)
 | []=>.nil
 | a :: as=>.cons rfl (lN as)
def eY (H:Hp):List Addr→List (Key × V)→Hp
 | t :: ts,(k,v) :: kvs=>upd (eY H ts kvs) t (.tup [kV k,v])
 | _,_=>H
theorem fE {H:Hp}:∀(ts:List Addr) (kvs:List (Key × V)) (b:Addr),b∉ts→eY H ts kvs b=H b
 | [],_,b,_=>rfl
 | t :: ts,[],b,_=>rfl
 | t :: ts,(k,v) :: kvs,b,hb=>by
  show upd (eY H ts kvs) t _ b=_;rw [am (fun z=>hb (by rw [z]; exact List.mem_cons_self)),fE ts kvs b fun z=>hb (List.mem_cons_of_mem _ z)]
theorem jr {H:Hp}:∀(ts:List Addr) (kvs:List (Key × V)),ts.Pairwise (· < ·)→∀(j:Nat) (t:Addr) (k:Key) (v:V),ts[j]? = some t→kvs[j]? = some (k,v)→eY H ts kvs t=some (.tup [kV k,v])
 | [],_,_,j,t,k,v,e,_=>by simp at e
 | t0 :: ts,[],_,j,t,k,v,_,e=>by simp at e
 | t0 :: ts,(k0,v0) :: kvs,p,j,t,k,v,e1,e2=>by
  show upd (eY H ts kvs) t0 _ t=_;cases j with
  | zero=>
   simp at e1 e2;obtain ⟨rfl,rfl⟩:=e2;subst e1;rw [ai]
  | succ j=>
   have e1:ts[j]? = some t:=by simpa using e1
   have e2:kvs[j]? = some (k,v):=by simpa using e2
   have lt:t0 < t:=(List.pairwise_cons.mp p).1 t (List.mem_of_getElem? e1);rw [am (Nat.ne_of_gt lt)];exact jr ts kvs (List.pairwise_cons.mp p).2 j t k v e1 e2
section
variable {X:Cx} {o:Expr} {to:TE} {p pos apos cpos:Pos}
end
end L2
namespace L2
open PySem PySem.Spec PyProof.Rows
section
variable {X:Cx} {es:List Expr} {tk:Nat} {tpos:Pos}
end
section
variable {X:Cx}
end
end L2
namespace L2
open PySem PySem.Calls PySem.Spec PyProof.Rows PySem.W
abbrev kz (h:Heap) (e it:Addr) (i:Int) (x0 x1 old:Value):Prop:=
 h.get? e=some {cls:=.type "enumerate",dict:=none,data:=.fields #[x0,x1,.ref it,rawInt i,.none,old],slots:=#[]}
section
variable {prog:Program} {w:World} {A:Around} {E:Value→Shared→Prop} {s:Shared}
theorem oD {e it l a:Addr} {f:Bool} {oa:Obj} {i:Nat} {items:Array Value} {x old:Value} {Q:Option Value→Shared→Prop}
  (he:kz s.heap e it i (rawInt a) (.bool f) old) (hit:s.heap.IsListIter it l i) (hl:s.heap.IsList l items) (hx:items[i]? = some x) (hne:e≠it) (ha:s.heap.get? a=some oa) (hae:a≠e) (hai:a≠it)
  (hQ:∀h',kz h' e it ((i:Int) + 1) (rawInt a) (.bool true) old→h'.IsListIter it l (i + 1)→
   h'.get? s.heap.objs.size=some {cls:=.type "tuple",data:=.seq #[.int i s.toks,x]}→h'.objs.size=s.heap.objs.size + 1→
   (∀b o,b≠e→b≠it→s.heap.get? b=some o→h'.get? b=some o)→Q (some (.ref s.heap.objs.size)) {s with heap:=h',toks:=s.toks + 1}) :
  wpAny (model prog w) A (pyNext (.ref e)) Q E s:=by
 have hT:s.TypeIs (.ref e) "enumerate":=⟨_,he,rfl⟩;unfold pyNext;refine wpAny_bind (wpAny_attempt (wpAny_callSpecial?_slot (name:=Str.ofString "__next__") hT F.slot_enumerate_next
  (wpAny_call_entry F.slot_enumerate_next hT F.entry_enumerate_next ?_ (F.args_enumerate_next_1 _))))
 obtain ⟨hp,g,d,tk,os⟩:=s;show wpAny _ _ (field (.ref e) 2 >>= _) _ _ _;refine wpAny_bind (wpAny_field he rfl (x:=.ref it) rfl ?_);refine wpAny_bind (wpAny_nextOf_list_item hit hl hx fun h₁ hit₁ hs₁=>?_)
 replace hs₁:Heap.SameBut it hp h₁:=hs₁
 have he₁:kz h₁ e it i (rawInt a) (.bool f) old:=(hs₁.2 e hne).trans he;show wpAny _ _ (field (.ref e) 3 >>= _) _ _ ⟨h₁,g,d,tk,os⟩;refine wpAny_bind (wpAny_field he₁ rfl (x:=rawInt i) rfl ?_);show wpAny _ _ (field (.ref e) 4 >>= _) _ _ ⟨h₁,g,d,tk,os⟩;refine wpAny_bind (wpAny_field he₁ rfl (x:=.none) rfl ?_);show wpAny _ _ (mkInt i >>= _) _ _ ⟨h₁,g,d,tk,os⟩;refine wpAny_bind (wpAny_mkInt ?_);show wpAny _ _ (setField (.ref e) 3 (rawInt ((i:Int) + 1)) >>= _) _ _ ⟨h₁,g,d,tk + 1,os⟩;refine wpAny_bind (wpAny_setField_rec he₁ (by simp) fun h₂ he₂ hs₂=>?_)
 replace hs₂:Heap.SameBut e h₁ h₂:=hs₂
 replace he₂:kz h₂ e it ((i:Int) + 1) (rawInt a) (.bool f) old:=he₂
 show wpAny _ _ (setField (.ref e) 4 .none >>= _) _ _ ⟨h₂,g,d,tk + 1,os⟩;refine wpAny_bind (wpAny_setField_rec he₂ (by simp) fun h₃ he₃ hs₃=>?_)
 replace hs₃:Heap.SameBut e h₂ h₃:=hs₃
 replace he₃:kz h₃ e it ((i:Int) + 1) (rawInt a) (.bool f) old:=he₃
 show wpAny _ _ (newTuple [.int i tk,x] >>= _) _ _ ⟨h₃,g,d,tk + 1,os⟩;refine wpAny_bind (wpAny_newTuple ?_);have he₄:kz (h₃.push {cls:=.type "tuple",data:=.seq #[.int i tk,x]}) e it ((i:Int) + 1) (rawInt a) (.bool f) old:=Heap.get?_push_of_some _ he₃;generalize hh₄:h₃.push {cls:=.type "tuple",data:=.seq #[.int i tk,x]}=h₄ at he₄;have hsz:h₃.objs.size=hp.objs.size:=by rw [hs₃.1,hs₂.1,hs₁.1]
 have hel:e < hp.objs.size:=Heap.lt_size he;have ht₄:h₄.get? hp.objs.size=some {cls:=.type "tuple",data:=.seq #[.int i tk,x]}:=by rw [← hh₄,← hsz]; exact Heap.get?_push_size _ rfl
 have hz₄:h₄.objs.size=hp.objs.size + 1:=by rw [← hh₄,Heap.size_push,hsz]
 have hk₄:∀b o,b≠e→b≠it→hp.get? b=some o→h₄.get? b=some o:=fun b o hbe hbi hb=>by
  rw [← hh₄]; exact Heap.get?_push_of_some _ (hs₃.extBut b o hbe (hs₂.extBut b o hbe (hs₁.extBut b o hbi hb)))
 have hit₄:h₄.IsListIter it l (i + 1):=by
  rw [← hh₄]; obtain ⟨o,ho,r⟩:=(hit₁.extBut hs₂.extBut (Ne.symm hne)).extBut hs₃.extBut (Ne.symm hne); exact ⟨o,Heap.get?_push_of_some _ ho,r⟩
 show wpAny _ _ (Builtin.SmallTypes.ownedTupleIsFree (.ref e) >>= _) _ _ ⟨h₄,g,d,tk + 1,os⟩;rw [hsz];clear hh₄ he₃ hs₃ he₂ hs₂ he₁ hs₁ hit₁ hsz h₃ h₂ h₁;have ha₄:h₄.get? a=some oa:=hk₄ a oa hae hai ha;refine wpAny_bind ?_;unfold Builtin.SmallTypes.ownedTupleIsFree;refine wpAny_bind (wpAny_field he₄ rfl (x:=rawInt a) rfl ?_);show wpAny _ _ (loadIfAlive ((a:Int).toNat) >>= _) _ _ _;rw [Int.toNat_natCast];refine wpAny_bind (kdx_alive ha₄ ?_);simp only [Option.isNone_some,Bool.false_eq_true,if_false];refine wpAny_bind (wpAny_field he₄ rfl (x:=.bool f) rfl ?_);have fin:∀h₅:Heap,kz h₅ e it ((i:Int) + 1) (rawInt a) (.bool true) old→Heap.SameBut e h₄ h₅→Q (some (.ref hp.objs.size)) ⟨h₅,g,d,tk + 1,os⟩:=fun h₅ he₅ hs₅=>
  hQ h₅ he₅ (hit₄.extBut hs₅.extBut (Ne.symm hne)) (hs₅.extBut _ _ (Nat.ne_of_gt hel) ht₄) (by show h₅.objs.size=hp.objs.size + 1; rw [hs₅.1,hz₄]) fun b o hbe hbi hb=>hs₅.extBut b o hbe (hk₄ b o hbe hbi hb)
 cases f with
 | true=>
  rw [if_neg (show ¬((Value.bool true != Value.bool true)=true) from Bool.false_ne_true)];refine wpAny_pure ?_;exact wpAny_pure ⟨_,rfl,wpAny_pure (fin h₄ he₄ (Heap.SameBut.refl _ _))⟩
 | false=>
  rw [if_pos (show (Value.bool false != Value.bool true)=true from rfl)];refine wpAny_bind (wpAny_setField_rec he₄ (by simp) fun h₅ he₅ hs₅=>?_)
  replace hs₅:Heap.SameBut e h₄ h₅:=hs₅
  replace he₅:kz h₅ e it ((i:Int) + 1) (rawInt a) (.bool true) old:=he₅
  refine wpAny_pure ?_;exact wpAny_pure ⟨_,rfl,wpAny_pure (fin h₅ he₅ hs₅)⟩
theorem uJ {e it l:Addr} {i:Nat} {items:Array Value} {x0 x1 old:Value} {Q:Option Value→Shared→Prop} (hh:A.handled=none)
  (he:kz s.heap e it i x0 x1 old) (hit:s.heap.IsListIter it l i) (hl:s.heap.IsList l items) (hx:items[i]? = none)
  (hQ:∀h',Heap.ExtBut it s.heap h'→Q none {s with heap:=h'}):wpAny (model prog w) A (pyNext (.ref e)) Q E s:=by
 have hT:s.TypeIs (.ref e) "enumerate":=⟨_,he,rfl⟩;unfold pyNext;refine wpAny_bind (wpAny_attempt (wpAny_callSpecial?_slot (name:=Str.ofString "__next__") hT F.slot_enumerate_next
  (wpAny_call_entry F.slot_enumerate_next hT F.entry_enumerate_next ?_ (F.args_enumerate_next_1 _))))
 show wpAny _ _ (field (.ref e) 2 >>= _) _ _ _;refine wpAny_bind (wpAny_field he rfl (x:=.ref it) rfl ?_);refine wpAny_bind (wpAny_nextOf_list_end hh hit hl hx fun h' x he' hx'=>?_);obtain ⟨o,ho,hc⟩:=hx';refine wpAny_bind (wpAny_isInstance (T:="StopIteration") (b:=true) ⟨o,ho,hc⟩ isSubtype_stop ?_);exact wpAny_pure (hQ _ he')
end
def EnSt (h:Heap) (e it S:Addr) (i:Nat):Prop:=
 (i=0∧∃old,IsEnum h e it 0 old)∨∃(a:Addr) (f:Bool) (old:Value) (oa:Obj),kz h e it i (rawInt a) (.bool f) old∧h.get? a=some oa∧a≠e∧a≠it∧a≠S
theorem EnSt.keep {h h':Heap} {e it S:Addr} {i:Nat} (x:EnSt h e it S i) (hk:∀b o,b≠S→h.get? b=some o→h'.get? b=some o) (hI:e≠S):EnSt h' e it S i:=by
 rcases x with ⟨z,old,he⟩ | ⟨a,f,old,oa,he,ha,h1,h2,h3⟩
 ·exact .inl ⟨z,old,hk _ _ hI he⟩
 ·exact .inr ⟨a,f,old,oa,hk _ _ hI he,hk _ _ h3 ha,h1,h2,h3⟩
section
variable {prog:Program} {w:World} {A:Around} {E:Value→Shared→Prop} {s:Shared}
theorem wS {e it l S:Addr} {i:Nat} {items:Array Value} {x:Value} {Q:Option Value→Shared→Prop} (hst:EnSt s.heap e it S i) (hS:S < s.heap.objs.size)
  (hit:s.heap.IsListIter it l i) (hl:s.heap.IsList l items) (hx:items[i]? = some x) (hne:e≠it)
  (hQ:∀h',EnSt h' e it S (i + 1)→h'.IsListIter it l (i + 1)→h'.get? s.heap.objs.size=some {cls:=.type "tuple",data:=.seq #[.int i s.toks,x]}→h'.objs.size=s.heap.objs.size + 1→
   (∀b o,b≠e→b≠it→s.heap.get? b=some o→h'.get? b=some o)→Q (some (.ref s.heap.objs.size)) {s with heap:=h',toks:=s.toks + 1}) :
  wpAny (model prog w) A (pyNext (.ref e)) Q E s:=by
 have hil:it < s.heap.objs.size:=by obtain ⟨o,ho,_⟩:=id hit; exact Heap.lt_size ho
 rcases hst with ⟨rfl,old,he⟩ | ⟨a,f,old,oa,he,ha,h1,h2,h3⟩
 ·have hel:e < s.heap.objs.size:=Heap.lt_size he;exact wpAny_pyNext_enum_item he hit hl hx hne fun h' ho hit' ht hz hk=>hQ h' (.inr ⟨_,false,_,_,ho,ht,Nat.ne_of_gt hel,Nat.ne_of_gt hil,Nat.ne_of_gt hS⟩) hit' ht hz hk
 ·exact oD he hit hl hx hne ha h1 h2 fun h' ho hit' ht hz hk=>hQ h' (.inr ⟨a,true,old,oa,ho,hk a oa h1 h2 ha,h1,h2,h3⟩) hit' ht hz hk
theorem wT {e it l S:Addr} {i:Nat} {items:Array Value} {Q:Option Value→Shared→Prop} (hh:A.handled=none) (hst:EnSt s.heap e it S i) (hit:s.heap.IsListIter it l i) (hl:s.heap.IsList l items) (hx:items[i]? = none)
  (hQ:∀h',Heap.ExtBut it s.heap h'→Q none {s with heap:=h'}):wpAny (model prog w) A (pyNext (.ref e)) Q E s:=by
 rcases hst with ⟨rfl,old,he⟩ | ⟨a,f,old,oa,he,_⟩
 ·exact uJ hh he hit hl hx hQ
 ·exact uJ hh he hit hl hx hQ
structure EnG (items:Array Value) (lo:Addr) (h:Heap) (as:List Addr):Prop where
 rise:as.Pairwise (· < ·)
 above:∀a∈as,lo < a
 pairs:∀(j:Nat) (a:Addr),as[j]? = some a→∃t x,items[j]? = some x∧h.get? a=some {cls:=.type "tuple",data:=.seq #[.int j t,x]}
theorem EnG.there {items:Array Value} {lo:Addr} {h:Heap} {as:List Addr} (g:EnG items lo h as) {a:Addr} (ha:a∈as):a < h.objs.size:=by
 obtain ⟨j,hj⟩:=List.mem_iff_getElem?.mp ha;obtain ⟨_,_,_,e⟩:=g.pairs j a hj;exact Heap.lt_size e
end
section
variable {prog:Program} {w:World} {A:Around} {s:Shared} {R:Result→Shared→Prop} {items:Array Value}
theorem wU {S I it l:Addr} (hh:A.handled=none) (hIS:I < S) (hTS:it < S) (hIi:I≠it) (hSt:it≠S) (hSd:l≠S) (hId:l≠I) (hIt:l≠it) (hn:items.size≤sizeLine) (res:Value) {h₁:Heap}
  (hR:∀h' tk acc c as,(∀b o,b≠S→b≠I→b≠it→h₁.get? b=some o→h'.get? b=some o)→h'.get? S=some {cls:=.type "list",dict:=none,data:=.seq acc c,slots:=#[]}→as.length=items.size→EnG items S h' as→
   acc.toList=as.map Value.ref→R (.ok (.ret res)) {s with heap:=h',toks:=tk}) :
  ∀(k i:Nat) (h:Heap) (tk c:Nat) (acc:Array Value) (as:List Addr),items.size - i=k→i≤items.size→EnSt h I it S i→h.IsListIter it l i→h.IsList l items→(∀b o,b≠S→b≠I→b≠it→h₁.get? b=some o→h.get? b=some o)→
   h.get? S=some {cls:=.type "list",dict:=none,data:=.seq acc c,slots:=#[]}→acc.toList=as.map Value.ref→as.length=i→EnG items S h as→
   codeAny (model prog w) A (.builtin "list.extend.loop" ⟨[.ref S,.ref I,res],[]⟩) R {s with heap:=h,toks:=tk}:=by
 have hne:S≠I:=Nat.ne_of_gt hIS;intro k
 induction k with
 | zero=>
  intro i h tk c acc as hk hi hst hit hD hkeep hS hacc hal hG;have hin:i=items.size:=by omega
  refine codeAny_builtin PySem.F.entry_extend_loop ?_;rw [Around.under_plainId PySem.F.plain_extend_loop _];show wpAny _ A.in1 (pyNext (.ref I) >>= _) _ _ _;refine wpAny_bind (wT (s:={s with heap:=h,toks:=tk}) (A:=A.in1) hh hst hit hD (by rw [Array.getElem?_eq_none]; omega) fun h' he=>?_);refine wpAny_pure (hR h' tk acc c as (fun b o h1 h2 h3 e=>he b o h3 (hkeep b o h1 h2 h3 e)) (he S _ hSt.symm hS) (by omega) ⟨hG.rise,hG.above,fun j a hj=>?_⟩ hacc);obtain ⟨t,x,e1,e2⟩:=hG.pairs j a hj;exact ⟨t,x,e1,he a _ (Nat.ne_of_gt (Nat.lt_trans hTS (hG.above a (List.mem_of_getElem? hj)))) e2⟩
 | succ k ih=>
  intro i h tk c acc as hk hi hst hit hD hkeep hS hacc hal hG;have hlt:i < items.size:=by omega
  obtain ⟨x,hx⟩:∃p,items[i]? = some p:=⟨items[i],Array.getElem?_eq_getElem hlt⟩;have hsz:acc.size=i:=by rw [← Array.length_toList,hacc,List.length_map,hal]
  refine codeAny_builtin PySem.F.entry_extend_loop ?_;rw [Around.under_plainId PySem.F.plain_extend_loop _];show wpAny _ A.in1 (pyNext (.ref I) >>= _) _ _ _;refine wpAny_bind (wS (s:={s with heap:=h,toks:=tk}) (S:=S) hst (Heap.lt_size hS) hit hD hx hIi fun h' hst' hit' ht hz hkp=>?_);dsimp only at ht hz hkp ⊢;have hS':=hkp S _ hne hSt.symm hS;have up:∀b o,b≠S→h'.get? b=some o→(h'.update S (Obj.mapSeq (·.push (Value.ref h.objs.size)))).get? b=some o:=fun b o hb e=>(Heap.get?_update_other _ _ (Ne.symm hb)).trans e;have hSl:S < h.objs.size:=Heap.lt_size hS;show wpAny _ A.in1 (updateSeq S (·.push (Value.ref h.objs.size)) >>= _) _ _ _;refine wpAny_bind ?_;refine wpAny_updateSeq hS' rfl (wpAny_pure ⟨plainId_quiet PySem.F.plain_extend_loop _,ih (i + 1) _ (tk + 1) _ (acc.push (Value.ref h.objs.size)) (as ++ [h.objs.size]) (by omega) hlt (hst'.keep up (Ne.symm hne)) (hit'.at fun o e=>up it o hSt e)
   (hD.at fun o e=>up l o hSd (hkp l o hId hIt e))
   (fun b o h1 h2 h3 e=>up b o h1 (hkp b o h2 h3 (hkeep b o h1 h2 h3 e))) (Heap.get?_update_self _ hS' rfl) (by rw [Array.toList_push,hacc,List.map_append]; rfl) (by rw [List.length_append,hal]; rfl) ⟨?_,?_,?_⟩⟩) (by rw [hsz]; omega) (by show (acc.push (Value.ref h.objs.size)).size≤sizeLine + 1; rw [Array.size_push,hsz]; omega)
  ·refine List.pairwise_append.mpr ⟨hG.rise,List.pairwise_singleton _ _,fun a ha b hb=>?_⟩;rw [List.mem_singleton.mp hb];exact hG.there ha
  ·intro a ha;rcases List.mem_append.mp ha with ha | ha
   ·exact hG.above a ha
   ·rw [List.mem_singleton.mp ha]; exact hSl
  ·intro j b hj;rcases Nat.lt_trichotomy j as.length with h1 | h1 | h1
   ·rw [List.getElem?_append_left h1] at hj;obtain ⟨t',x',e1,e2⟩:=hG.pairs j b hj;have hb:=hG.above b (List.mem_of_getElem? hj);exact ⟨t',x',e1,up b _ (Nat.ne_of_gt hb) (hkp b _ (Nat.ne_of_gt (Nat.lt_trans hIS hb)) (Nat.ne_of_gt (Nat.lt_trans hTS hb)) e2)⟩
   ·subst h1;have hb:h.objs.size=b:=by simpa using hj
    subst hb;exact ⟨_,x,by rw [hal]; exact hx,by rw [hal]; exact up _ _ (Nat.ne_of_gt hSl) ht⟩
   ·have hnone:(as ++ [h.objs.size])[j]? = none:=List.getElem?_eq_none (by rw [List.length_append,List.length_singleton]; omega);rw [hnone] at hj; cases hj
theorem sx:typeLookup (.type "enumerate") "__len__" = pure none:=by rw [typeLookup_type,builtinLookup_eq_fast]; kernel_rfl
theorem pW:typeLookup (.type "enumerate") "__length_hint__" = pure none:=by rw [typeLookup_type,builtinLookup_eq_fast]; kernel_rfl
theorem sy {S I it l:Addr} (hh:A.handled=none) (hSI:S≠I) (hSt:it≠S) (hSd:l≠S) (hn:items.size≤sizeLine) (res:Value) (c₀:Nat)
  (he:IsEnum s.heap I it 0 .none) (hit:s.heap.IsListIter it l 0) (hl:s.heap.IsList l items) (hS:s.heap.get? S=some {cls:=.type "list",data:=.seq #[] c₀})
  (lp:∀(h:Heap) (tk c:Nat),EnSt h I it S 0→h.IsListIter it l 0→h.IsList l items→(∀b o,b≠S→b≠I→b≠it→s.heap.get? b=some o→h.get? b=some o)→h.get? S=some {cls:=.type "list",dict:=none,data:=.seq #[] c,slots:=#[]}→
   codeAny (model prog w) A (.builtin "list.extend.loop" ⟨[.ref S,.ref I,res],[]⟩) R {s with heap:=h,toks:=tk}) :
  wpAny (model prog w) A.in1 (Builtin.List.listExtendWith (.ref S) (.ref I) res)
   (fun fin s'=>match fin with | .done f=>R (.ok f) s' | .again c'=>c'.quiet=true∧codeAny (model prog w) A c' R s') (fun e s'=>R (.error e) s') s:=by
 have hT:s.TypeIs (.ref I) "enumerate":=⟨_,he,rfl⟩;have hIl:I < s.heap.objs.size:=Heap.lt_size he;unfold Builtin.List.listExtendWith;refine wpAny_bind (wpAny_typeOf hT ?_);have h1:Builtin.List.listSameRef (.ref S) (.ref I)=false:=by simp [Builtin.List.listSameRef,hSI]
 have h2:(Value.type "enumerate" == Value.type "list")=false:=by decide
 have h3:(Value.type "enumerate" == Value.type "tuple")=false:=by decide
 simp only [h1,h2,h3,Bool.or_false,Bool.false_eq_true,if_false];refine wpAny_bind (wpAny_pyIter_enum he ?_);refine wpAny_bind (wpAny_holding ?_);unfold Builtin.List.listLengthHint;refine wpAny_bind (wpAny_specialOf hT sx ?_);show wpAny _ A.in1 (specialOf (Value.ref I) (Str.ofString "__length_hint__") >>= _) _ _ _;refine wpAny_bind (wpAny_specialOf hT pW ?_);refine wpAny_pure ?_;show wpAny _ A.in1 (rule "list.extend.makes-room" >>= fun _=>Builtin.List.listTouch (.ref S) >>= fun _=>
  again (.builtin "list.extend.loop" ⟨[.ref S,.ref I,res],[]⟩)) _ _ _
 refine wpAny_bind (wpAny_rule ?_);refine wpAny_bind ?_;show wpAny _ A.in1 (updateSeq S (·.push .none) >>= fun _=>updateSeq S (·.pop)) _ _ _;refine wpAny_bind (wpAny_updateSeq hS rfl ?_);have hS₂:=Heap.get?_update_self (Obj.mapSeq (·.push Value.none)) hS rfl;refine wpAny_updateSeq (hz:=by seq_fits) hS₂ rfl ?_;have hS₃:=Heap.get?_update_self (Obj.mapSeq (·.pop)) hS₂ rfl;have oth:∀b o,b≠S→s.heap.get? b=some o→((s.heap.update S (Obj.mapSeq (·.push Value.none))).update S (Obj.mapSeq (·.pop))).get? b=some o:=
  fun b o hb e=>(Heap.get?_update_other _ _ (Ne.symm hb)).trans ((Heap.get?_update_other _ _ (Ne.symm hb)).trans e)
 refine wpAny_pure ⟨plainId_quiet PySem.F.plain_extend_loop _,lp _ _ _ (.inl ⟨rfl,_,oth _ _ hSI.symm he⟩) (hit.at fun o e=>oth it o hSt e) (hl.at fun o e=>oth l o hSd e) (fun b o h1 h2 h3 e=>oth b o h1 e) hS₃⟩
end
section
variable {prog:Program} {w:World} {A:Around} {E:Value→Shared→Prop} {s:Shared} {items:Array Value}
theorem wV {I it l:Addr} {Q:Value→Shared→Prop} (hh:A.handled=none) (hIi:I≠it) (hId:l≠I) (hIt:l≠it) (hn:items.size≤sizeLine)
  (he:IsEnum s.heap I it 0 .none) (hit:s.heap.IsListIter it l 0) (hl:s.heap.IsList l items)
  (hQ:∀h' tk acc c as,(∀b o,b≠I→b≠it→s.heap.get? b=some o→h'.get? b=some o)→h'.get? s.heap.objs.size=some {cls:=.type "list",dict:=none,data:=.seq acc c,slots:=#[]}→as.length=items.size→EnG items s.heap.objs.size h' as→
   acc.toList=as.map Value.ref→Q (.ref s.heap.objs.size) {s with heap:=h',toks:=tk}) :
  wpAny (model prog w) A (call (.type "list") [.ref I]) Q E s:=by
 refine callType_codes (Q₁:=fun obj s₁=>obj = .ref s.heap.objs.size∧s₁ = {s with heap:=s.heap.push {cls:=.type "list",data:=.seq #[]}}) PySem.F.called_list (PySem.F.typeCall_list_1 _) PySem.F.entry_list_init
  (code_list_new _ ⟨rfl,rfl⟩) fun obj s₁ h₁=>?_
 obtain ⟨rfl,rfl⟩:=h₁;have hS:(s.heap.push {cls:=.type "list",data:=.seq #[]}).get? s.heap.objs.size=some {cls:=.type "list",data:=.seq #[]}:=Heap.get?_push_size _ rfl;have lI:I < s.heap.objs.size:=Heap.lt_size he;have lT:it < s.heap.objs.size:=by obtain ⟨o,ho,_⟩:=id hit; exact Heap.lt_size ho
 have lL:l < s.heap.objs.size:=by obtain ⟨o,ho,_⟩:=id hl; exact Heap.lt_size ho
 refine ⟨⟨_,hS,rfl⟩,PySem.F.args_list_init_2 _ _,?_⟩;generalize hz:s.heap.objs.size=S at hS lI lT lL hQ ⊢;have up:∀b o,s.heap.get? b=some o→(s.heap.push {cls:=.type "list",data:=.seq #[]}).get? b=some o:=fun b o e=>Heap.get?_push_of_some _ e;have he1:=up _ _ he;have hit1:=hit.at fun o e=>up it o e;have hl1:=hl.at fun o e=>up l o e;generalize hp:s.heap.push {cls:=.type "list",data:=.seq #[]}=h0 at hS up he1 hit1 hl1 ⊢;show wpAny _ A.in1.in1 (do let old ← Builtin.List.listItems (.ref S); Builtin.List.listUpdate (.ref S) (fun _=>#[]); letGo old.toList.reverse; Builtin.List.listExtendWith (.ref S) (.ref I) .none) _ _ _;refine wpAny_bind ?_;unfold Builtin.List.listItems;refine wpAny_bind (wpAny_seqItems hS rfl (wpAny_pure ?_));show wpAny _ A.in1.in1 (updateSeq S (fun _=>#[]) >>= fun _=>letGo (#[]:Array Value).toList.reverse >>= fun _=>Builtin.List.listExtendWith (.ref S) (.ref I) .none) _ _ _;refine wpAny_bind (wpAny_updateSeq hS rfl ?_);have hS₂:=Heap.get?_update_self (Obj.mapSeq (fun _=>(#[]:Array Value))) hS rfl;have oth:∀b o,b≠S→h0.get? b=some o→(h0.update S (Obj.mapSeq (fun _=>(#[]:Array Value)))).get? b=some o:=
  fun b o hb e=>(Heap.get?_update_other _ _ (Ne.symm hb)).trans e
 have nI:=Nat.ne_of_lt lI;have nT:=Nat.ne_of_lt lT;have nL:=Nat.ne_of_lt lL;refine wpAny_bind (wpAny_letGo ?_);refine sy (A:=A.in1) (s:={s with heap:=h0.update S (Obj.mapSeq (fun _=>(#[]:Array Value)))}) hh nI.symm nT nL hn .none _ (oth _ _ nI he1) (hit1.at fun o e=>oth it o nT e) (hl1.at fun o e=>oth l o nL e) hS₂ fun h tk c st i1 l1 kp hS3=>?_;refine wU (A:=A.in1) (s:={s with heap:=h0.update S (Obj.mapSeq (fun _=>(#[]:Array Value)))}) (h₁:=h0.update S (Obj.mapSeq (fun _=>(#[]:Array Value)))) hh lI lT hIi nT nL hId hIt hn .none (fun h' tk' acc c' as hk hS' hal hG hacc=>?_) items.size 0 h tk c #[] [] rfl (Nat.zero_le _) st i1 l1 kp hS3 rfl rfl ⟨List.Pairwise.nil,(fun _ ha=>nomatch ha),(fun j a hj=>by simp at hj)⟩;refine ⟨rfl,hQ h' tk' acc c' as (fun b o h1 h2 e=>?_) hS' hal hG hacc⟩;have lb:b≠S:=Nat.ne_of_lt (by rw [← hz]; exact Heap.lt_size e);exact hk b o lb h1 h2 (oth b o lb (up b o e))
end
def enK:Nat→List V→List (Key × V)
 | _,[]=>[]
 | i,x :: r=>(Sum.inl (i:Int),x) :: enK (i + 1) r
theorem qM:∀(i:Nat) (xs:List V),(enK i xs).length=xs.length
 | _,[]=>rfl
 | i,x :: r=>by show (enK (i + 1) r).length + 1=_; rw [qM]; rfl
theorem qN:∀(i:Nat) (xs:List V) (j:Nat),(enK i xs)[j]? = (xs[j]?).map fun x=>(Sum.inl (((i + j:Nat)):Int),x)
 | _,[],j=>by simp [enK]
 | i,x :: r,0=>rfl
 | i,x :: r,j + 1=>by
  show (enK (i + 1) r)[j]? = _;rw [qN,show i + 1 + j=i + (j + 1) by omega];rfl
def uK (K:PySem.W.Frag) (ta:TA):TE:=fun σ H Q=>ta σ H fun vs H1=>∃a xs,vs=[.ref a]∧SqL K H1 a xs∧∀(l:Addr) (ts:List Addr) (H':Hp),H1 l=none→(∀b o,H1 b=some o→H' b=some o)→H' l=some (.lst (ts.map V.ref))→ts.length=xs.length→
 (∀(j:Nat) (t:Addr) (x:V),ts[j]? = some t→xs[j]? = some x→H' t=some (.tup [.int (j:Int),x])∧H1 t=none)→Q (.ref l) H'
section
variable {X:Cx} {l:Expr} {ta:TA} {p p2 pos pos2:Pos}
theorem uL (hc:X.calm=true) (hg:Gl X "list") (hm:X.mg "list" = none) (hg2:Gl X "enumerate") (hm2:X.mg "enumerate" = none) (ha:PA X [l] ta) (hs:starEach [l] X.env=[(false,eval l X.env)]:=by rfl)
  (he:starEach [.Call (.Name "enumerate" p2) [l] [] pos2] X.env=(false,eval (.Call (.Name "enumerate" p2) [l] [] pos2) X.env) :: starEach [] X.env:=by rfl) :
  PE X (.Call (.Name "list" p) [.Call (.Name "enumerate" p2) [l] [] pos2] [] pos) (uK X.K ta):=by
 intro pins s σ H Q I h;refine wpAny_Call_Name_kw (eO I hg hm boot_list ?_ (by decide) (by decide));refine PyProof.Rows.callWith_type1 ?_ he (by rfl);rw [he];show wpAny _ _ (spliced ((false,eval (.Call (.Name "enumerate" p2) [l] [] pos2) X.env) :: backTo pos (starEach [] X.env))) _ _ s;refine Calls.spliced_cons ?_;refine Call_ (eO I hg2 hm2 PyProof.Rows.boot_enumerate (PyProof.Rows.callWith_type1 (thn (ha pos2 pins s σ H _ I h) fun us s1 ⟨vs,H1,I1,r1,q1⟩=>?_) hs rfl));obtain ⟨a,xs,e,hq,q⟩:=q1;subst e;cases r1 with
 | cons r rr=>
  cases rr;cases r;obtain ⟨its,rv,pl,hz⟩:=I1.list hq;refine call_enumerate_list pl.isList fun h2 he2 hit2 hsz kk=>?_;show wpAny _ _ (spliced []) _ _ _;refine Calls.spliced_nil ?_;have la:a < s1.heap.objs.size:=by
   obtain ⟨o,ho,_⟩:=id pl.isList;exact Heap.lt_size ho
  have isz:its.toArray.size=xs.length:=by rw [List.size_toArray,rv.length]
  refine wV (s:={s1 with heap:=h2}) (items:=its.toArray) (I.ok.hd hc) (Nat.succ_ne_self _) (Nat.ne_of_lt (Nat.lt_succ_of_lt la)) (Nat.ne_of_lt la) (by rw [isz]; exact hz) he2 hit2 (pl.isList.at fun o e=>kk a o e) fun h' tk acc c as hk hl hal hG hacc=>?_;have zp:h2.objs.size=s1.heap.objs.size + 2:=hsz;have kp:∀b u,s1.heap.get? b=some u→h'.get? b=some u:=fun b u e=>hk b u (Nat.ne_of_lt (Nat.lt_succ_of_lt (Heap.lt_size e))) (Nat.ne_of_lt (Heap.lt_size e)) (kk b u e);have lG:∀b∈as,s1.heap.objs.size + 2 < b:=fun b hb=>by
   have:=hG.above b hb;rw [show ({s1 with heap:=h2}:Shared).heap.objs.size=h2.objs.size from rfl,zp] at this;exact this
  have lz:s1.heap.objs.size + 2∉as:=fun z=>absurd (lG _ z) (Nat.lt_irrefl _);have hl':h'.get? (s1.heap.objs.size + 2)=some {cls:=.type "list",dict:=none,data:=.seq acc c,slots:=#[]}:=by rw [← zp]; exact hl
  have free:∀b,s1.heap.objs.size≤b→H1 b=none:=fun b hb=>I1.hok.fresh hb;have lenK:=qM 0 xs
  let H2:Hp:=upd (eY H1 as (enK 0 xs)) (s1.heap.objs.size + 2) (.lst (as.map V.ref))
  have oldH:∀b,b < s1.heap.objs.size→H2 b=H1 b:=fun b hb=>by
   show upd _ _ _ b=_;have nb:b≠s1.heap.objs.size + 2:=fun z=>by rw [z] at hb; exact absurd hb (by omega)
   rw [am nb,fE as _ b fun z=>absurd (Nat.lt_trans (lG b z) hb) (by omega)]
  have tupAt:∀(j:Nat) (t:Addr) (x:V),as[j]? = some t→xs[j]? = some x→H2 t=some (.tup [.int (j:Int),x]):=fun j t x e1 e2=>by
   show upd _ _ _ t=_;rw [am (fun z=>lz (by rw [← z]; exact List.mem_of_getElem? e1))];have:=jr (H:=H1) as (enK 0 xs) hG.rise j t (Sum.inl (j:Int)) x e1 (by rw [qN,e2,Nat.zero_add]; rfl);exact this
  have I2:Inv X pins σ H2 {s1 with heap:=h',toks:=tk}:=I1.many kp oldH fun b u hb e=>by
   by_cases hbl:b=s1.heap.objs.size + 2
   ·subst hbl;have:u = .lst (as.map V.ref):=by
     have e':H2 (s1.heap.objs.size + 2)=some (.lst (as.map V.ref)):=ai;rw [e'] at e; cases e; rfl
    subst this;refine ⟨by rw [List.length_map,hal,isz]; exact hz,as.map Value.ref,c,?_,?_⟩
    ·exact lN as
    ·rw [hl',← hacc]
   ·by_cases hin:b∈as
    ·obtain ⟨j,hj⟩:=List.mem_iff_getElem?.mp hin;have jl:=(List.getElem?_eq_some_iff.mp hj).1;have jx:j < xs.length:=by omega
     have hx:xs[j]? = some xs[j]:=List.getElem?_eq_getElem jx;have:=tupAt j b _ hj hx;rw [this] at e;cases e;obtain ⟨t,x',e3,e4⟩:=hG.pairs j b hj;obtain ⟨w',hw,rv'⟩:=rv.get hx;have e5:its[j]? = some x':=by simpa using e3
     rw [hw] at e5;cases e5;exact ⟨by show 2≤sizeLine; decide,[_,_],.cons ⟨_,rfl⟩ (.cons rv' .nil),_,e4,rfl,0,rfl⟩
    ·have:H2 b=H1 b:=by
      show upd _ _ _ b=_;rw [am hbl,fE as _ b hin]
     rw [this,free b hb] at e;cases e
  refine ⟨.ref (s1.heap.objs.size + 2),H2,I2,by rw [show ({s1 with heap:=h2}:Shared).heap.objs.size=h2.objs.size from rfl,zp]; rfl,?_⟩;refine q _ as H2 (free _ (by omega)) (fun b u e=>by rw [oldH b (I1.hok.lt e)]; exact e) ai (by rw [hal,isz]) fun j t x e1 e2=>⟨tupAt j t x e1 e2,free _ ?_⟩;have:=lG t (List.mem_of_getElem? e1);omega
end
end L2
namespace L2
open PySem PySem.Spec PyProof.Rows PySem.W
section
variable {X:Cx}
end
end L2
namespace L2
open PySem PySem.Spec PyProof.Rows
structure FunG (K:PySem.W.Frag) (x qual:Str) (st:Stmt) (dV:Value) (f:Addr) (fd:FuncData):Prop where
 ex:∃(oc:Value) (od:Option Addr) (kV doc pm:Value) (an:Option Addr) (cdv ct:Value) (osl:Array (Option Value)),
  fd=PySem.W.fnOf x qual (aD st) (aC st) (af st) dV kV doc pm an cdv ct∧K.lookup f=some ⟨oc,od,.func fd,osl⟩∧PySem.W.codeIn K cdv qual=true
 kp:PySem.W.keepIn K (.ref f)=true
section
variable {P:Program} {w:World} {K:PySem.W.Frag} {mg:Str→Option Value} {base:Heap} {x qual:Str} {st:Stmt} {dV:Value} {f:Addr} {fd:FuncData} {N ps:List Str} {k:Nat} {sp:Sp}
theorem FunG.okE (F:FunG K x qual st dV f fd) (S:FnScope N ps (af st)) (len:∀vs H Q E,sp vs H Q E→vs.length=ps.length)
  (hbody:∀(cdv:Value) (A:Around) (outer:List Env) (s:Shared) (H:Hp) (vs:List V) (Q:VK) (E:XK),Room k (A.deeper (envOfC qual (af st) s.heap.objs.size f cdv))→sp vs H Q E→
   ∃t,PSs (eV (CXE P w) P w K mg base N qual (af st) f cdv A outer s H E) (aC st) t∧t {nx:=fun _ H'=>Q .non H',rt:=Q} (start N vs) H):FnOk P w K mg base (CXE P w) (k + 1) f fd ps sp:=by
 obtain ⟨oc,od,kV,doc,pm,an,cdv,ct,osl,rfl,lk,hcd⟩:=F.ex;exact xU lk hcd S len fun A outer s H vs Q E hr hsp=>hbody cdv A outer s H vs Q E hr hsp
theorem FunG.okN (F:FunG K x qual st dV f fd) (S:FnScope N ps (af st)) (len:∀vs H Q E,sp vs H Q E→vs.length=ps.length)
  (hbody:∀(cdv:Value) (A:Around) (outer:List Env) (s:Shared) (H:Hp) (vs:List V) (Q:VK) (E:XK),Room k (A.deeper (envOfC qual (af st) s.heap.objs.size f cdv))→sp vs H Q E→
   ∃t,PSs (eV (CXE P w) P w K mg base N qual (af st) f cdv A outer s H E).nox (aC st) t∧t {nx:=fun _ H'=>Q .non H',rt:=Q} (start N vs) H):FnOk P w K mg base (CXE P w) (k + 1) f fd ps sp:=
 F.okE S len fun cdv A outer s H vs Q E hr hsp=>by
  obtain ⟨t,h,q⟩:=hbody cdv A outer s H vs Q E hr hsp;exact ⟨t,h.nox,q⟩
theorem FunG.binds (F:FunG K x qual st .none f fd)
  (h:∀(kV doc pm:Value) (an:Option Addr) (cdv ct:Value) (us:List Value),us.length=ps.length→bindArgs (PySem.W.fnOf x qual (aD st) (aC st) (af st) .none kV doc pm an cdv ct) ⟨us,[]⟩=pure (ps.zip us)):Binds K fd ps []:=by
 obtain ⟨oc,od,kV,doc,pm,an,cdv,ct,osl,rfl,lk,hcd⟩:=F.ex;exact .all (h kV doc pm an cdv ct)
theorem aK {oc:Value} {od an:Option Addr} {osl:Array (Option Value)} {kV doc pm cdv ct:Value} (l:K.lookup f=some ⟨oc,od,.func (PySem.W.fnOf x qual (aD st) (aC st) (af st) dV kV doc pm an cdv ct),osl⟩)
  (c:PySem.W.codeIn K cdv qual=true) (k:PySem.W.keepIn K (.ref f)=true):FunG K x qual st dV f (PySem.W.fnOf x qual (aD st) (aC st) (af st) dV kV doc pm an cdv ct):=⟨⟨oc,od,kV,doc,pm,an,cdv,ct,osl,rfl,l,c⟩,k⟩
end
inductive Th (H:Hp):V→Prop where
 | non:Th H .non
 | bl (b:Bool):Th H (.bl b)
 | int (i:Int):Th H (.int i)
 | str (x:Str):Th H (.str x)
 | lst {a:Addr} {xs:List V} (h:H a=some (.lst xs)):Th H (.ref a)
 | tup {a:Addr} {xs:List V} (h:H a=some (.tup xs)):Th H (.ref a)
 | dK {a:Addr} {xs:List (Key × V)} (h:H a=some (.dK xs)):Th H (.ref a)
def isI:V→Bool
 | .int _=>true
 | .bl _=>true
 | _=>false
def isB:V→Bool
 | .bl _=>true
 | _=>false
def isW:V→Bool
 | .int _=>true
 | _=>false
theorem zh (x:V):(if isI x=true then !isB x else false)=isW x:=by cases x <;> rfl
theorem ki1 {K:PySem.W.Frag}:PySem.W.kitOne K (.type "int") (.type "int")=some true:=by kernel_rfl
theorem ki2 {K:PySem.W.Frag}:PySem.W.kitOne K (.type "bool") (.type "int")=some true:=by kernel_rfl
theorem ki3 {K:PySem.W.Frag}:PySem.W.kitOne K (.type "NoneType") (.type "int")=some false:=by kernel_rfl
theorem ki4 {K:PySem.W.Frag}:PySem.W.kitOne K (.type "str") (.type "int")=some false:=by kernel_rfl
theorem ki5 {K:PySem.W.Frag}:PySem.W.kitOne K (.type "list") (.type "int")=some false:=by kernel_rfl
theorem ki6 {K:PySem.W.Frag}:PySem.W.kitOne K (.type "tuple") (.type "int")=some false:=by kernel_rfl
theorem ki7 {K:PySem.W.Frag}:PySem.W.kitOne K (.type "dict") (.type "int")=some false:=by kernel_rfl
theorem kb1 {K:PySem.W.Frag}:PySem.W.kitOne K (.type "int") (.type "bool")=some false:=by kernel_rfl
theorem kb2 {K:PySem.W.Frag}:PySem.W.kitOne K (.type "bool") (.type "bool")=some true:=by kernel_rfl
theorem kt1 {K:PySem.W.Frag}:PySem.W.kitOne K (.type "tuple") (.type "tuple")=some true:=by kernel_rfl
theorem boot_int:bootBuiltins "int" = some (.type "int"):=by decide +kernel
theorem boot_bool:bootBuiltins "bool" = some (.type "bool"):=by decide +kernel
theorem boot_tuple:bootBuiltins "tuple" = some (.type "tuple"):=by decide +kernel
theorem Th.ty {K:PySem.W.Frag} {H:Hp} {x:V} (h:Th H x):∃t,TyX K H x t∧PySem.W.kitOne K t (.type "int")=some (isI x)∧(isI x=true→PySem.W.kitOne K t (.type "bool")=some (isB x)):=by
 cases h with
 | non=>exact ⟨_,.of .non,ki3,fun z=>nomatch z⟩
 | bl b=>exact ⟨_,.of (.bl b),ki2,fun _=>kb2⟩
 | int i=>exact ⟨_,.of (.int i),ki1,fun _=>kb1⟩
 | str x=>exact ⟨_,.of (.str x),ki4,fun z=>nomatch z⟩
 | lst h=>exact ⟨_,.of (.lst h),ki5,fun z=>nomatch z⟩
 | tup h=>exact ⟨_,.of (.tup h),ki6,fun z=>nomatch z⟩
 | dK h=>exact ⟨_,.of (.dK h),ki7,fun z=>nomatch z⟩
end L2
namespace G1
open PySem L2
def top (i:Nat):Stmt:=PySem.Challenge.pw_dearsigns_k17_whole_whatever_tree.main.body.getD i (.Pass ⟨0,0,0,0⟩)
abbrev jg:Stmt:=top 19
abbrev gW:Stmt:=top 20
abbrev sC:Stmt:=top 21
abbrev gk:Stmt:=top 23
abbrev sD:Stmt:=top 25
abbrev gX:Stmt:=top 24
abbrev jY:Stmt:=top 30
abbrev du:Stmt:=top 31
abbrev sE:Stmt:=top 32
abbrev jh:Stmt:=top 22
abbrev gZ:Stmt:=top 33
abbrev dZ:Stmt:=top 34
abbrev lO:Stmt:=top 49
abbrev g6:Stmt:=top 50
abbrev lP:Stmt:=top 51
abbrev g7:Stmt:=top 52
abbrev ji:Stmt:=top 53
abbrev g9:Stmt:=top 54
abbrev dJ:Stmt:=top 55
abbrev lQ:Stmt:=top 56
abbrev jj:Stmt:=top 57
abbrev ef:Stmt:=top 58
abbrev eh:Stmt:=top 59
abbrev eI:Stmt:=top 60
abbrev hJ:Stmt:=top 41
abbrev cQ:Stmt:=top 42
abbrev jZ:Stmt:=top 43
abbrev eA:Stmt:=top 61
abbrev iz:Stmt:=top 62
abbrev hU:Stmt:=top 36
abbrev hV:Stmt:=top 37
abbrev eZ:Stmt:=top 38
abbrev iA:Stmt:=top 39
abbrev fK:Stmt:=top 44
abbrev eJ:Stmt:=top 45
abbrev jk:Stmt:=top 46
abbrev lR:Stmt:=top 47
abbrev eT:Stmt:=top 63
abbrev js:Stmt:=top 64
abbrev dy:Stmt:=top 65
abbrev fb:Stmt:=top 66
abbrev eK:Stmt:=top 67
abbrev dR:Stmt:=top 68
abbrev jt:Stmt:=top 69
abbrev fM:Stmt:=top 70
abbrev iB:Stmt:=top 71
abbrev kE:Stmt:=top 72
structure Bl (mg:Str→Option Value):Prop where
 isi:mg "isinstance" = none
 int:mg "int" = none
 bool:mg "bool" = none
 tuple:mg "tuple" = none
 abs:mg "abs" = none
 len:mg "len" = none
 enum:mg "enumerate" = none
 str:mg "str" = none
 range:mg "range" = none
 max:mg "max" = none
 all:mg "all" = none
 set:mg "set" = none
 list:mg "list" = none
 min:mg "min" = none
 sum:mg "sum" = none
 dict:mg "dict" = none
 any:mg "any" = none
 reversed:mg "reversed" = none
 sorted:mg "sorted" = none
section
variable {P:Program} {w:World} {K:PySem.W.Frag} {mg:Str→Option Value} {base:Heap}
def iO:Sp:=fun vs H Q _=>∃x,vs=[x]∧Th H x∧Q (.bl (isW x)) H
theorem scW:FnScope ["thing"] ["thing"] (af jg):=⟨rfl,rfl,rfl,by decide +kernel,rfl,by decide +kernel,by decide +kernel⟩
theorem uM {f:Addr} {fd:FuncData} (F:FunG K "is_whole" "is_whole" jg .none f fd) (B:Bl mg):FnOk P w K mg base (CXE P w) 1 f fd ["thing"] iO:=by
 refine F.okN scW (fun vs H Q E h=>?_) (fun cdv A outer s H vs Q E hr h=>?_)
 ·obtain ⟨x,rfl,_⟩:=h;rfl
 ·obtain ⟨x,rfl,hx,q⟩:=h;obtain ⟨t,ty,e1,e2⟩:=hx.ty (K:=K);refine ⟨_,dH (io (tO (dX aV (by rfl) B.isi aW (bf (pv 0) (bf (mq (by rfl) B.int boot_int (v:=.ty "int") rfl) dD)))
   (tN (tP (dX aV (by rfl) B.isi aW (bf (pv 0) (bf (mq (by rfl) B.bool boot_bool (v:=.ty "bool") rfl) dD))))))),?_⟩
  refine ⟨x,rfl,x,_,t,isI x,rfl,ty,.inl ⟨_,rfl,e1⟩,_,rfl,?_⟩;rw [← zh x] at q
  by_cases hi:isI x=true
  ·rw [if_pos hi] at q ⊢;exact ⟨x,rfl,x,_,t,isB x,rfl,ty,.inl ⟨_,rfl,e2 hi⟩,_,rfl,q⟩
  ·rw [if_neg hi] at q ⊢;exact q
end
end G1
namespace GM
theorem oE (m n:Nat):Nat.gcd n (m % n)=Nat.gcd m n:=by
 rw [Nat.gcd_comm n,Nat.gcd_comm m,Nat.gcd_rec n m]
theorem nc (i:Int):(if i < 0 then -i else i)=(i.natAbs:Int):=by split <;> omega
def gd (a b:Int):Int:=((Nat.gcd a.natAbs b.natAbs:Nat):Int)
theorem uN {a b:Int} (h:b≠0):0 < gd a b:=by
 unfold gd;have:0 < Nat.gcd a.natAbs b.natAbs:=Nat.gcd_pos_of_pos_right _ (by omega);omega
theorem qO (a b:Int):gd a b ∣ a:=by
 unfold gd;have h:(Nat.gcd a.natAbs b.natAbs) ∣ a.natAbs:=Nat.gcd_dvd_left _ _;exact Int.dvd_natAbs.mp (Int.natCast_dvd_natCast.mpr h)
theorem qP (a b:Int):gd a b ∣ b:=by
 unfold gd;have h:(Nat.gcd a.natAbs b.natAbs) ∣ b.natAbs:=Nat.gcd_dvd_right _ _;exact Int.dvd_natAbs.mp (Int.natCast_dvd_natCast.mpr h)
theorem An {a b:Int} (h:b≠0):(gd a b).natAbs≤b.natAbs:=by
 unfold gd;have:Nat.gcd a.natAbs b.natAbs≤b.natAbs:=Nat.le_of_dvd (by omega) (Nat.gcd_dvd_right _ _);omega
theorem zi {a b g:Int} (hb:b≠0) (hg:g=gd a b∨g = -gd a b) (hs:0 < b↔0 < g) :
  ∃c d,a.fdiv g=c∧b.fdiv g=d∧a=g * c∧b=g * d∧0 < d∧Nat.gcd c.natAbs d.natAbs=1∧c.natAbs≤a.natAbs∧d.natAbs≤b.natAbs:=by
 have h0:=uN (a:=a) hb;have g0:g≠0:=by omega
 have d1:g ∣ a:=by
  rcases hg with e | e
  ·rw [e]; exact qO a b
  ·rw [e]; exact (Int.neg_dvd).mpr (qO a b)
 have d2:g ∣ b:=by
  rcases hg with e | e
  ·rw [e]; exact qP a b
  ·rw [e]; exact (Int.neg_dvd).mpr (qP a b)
 obtain ⟨c,rfl⟩:=d1;obtain ⟨d,rfl⟩:=d2;have na:g.natAbs=Nat.gcd (g * c).natAbs (g * d).natAbs:=by
  have e:gd (g * c) (g * d)=((Nat.gcd (g * c).natAbs (g * d).natAbs:Nat):Int):=rfl;rcases hg with z | z <;> omega
 refine ⟨c,d,Int.mul_fdiv_cancel_left _ g0,Int.mul_fdiv_cancel_left _ g0,rfl,rfl,?_,?_,?_,?_⟩
 ·by_cases hp:0 < g
  ·have z:=hs.mpr hp;rw [Int.mul_comm] at z;exact Int.pos_of_mul_pos_left z hp
  ·have gn:g < 0:=by omega
   have bn:¬0 < g * d:=fun z=>hp (hs.mp z);have bn2:g * d < 0:=by omega
   rcases Int.lt_trichotomy d 0 with z | z | z
   ·have:=Int.mul_pos_of_neg_of_neg gn z;omega
   ·rw [z] at hb; simp at hb
   ·exact z
 ·rw [Int.natAbs_mul,Int.natAbs_mul,Nat.gcd_mul_left] at na;have gp:0 < g.natAbs:=by omega
  have:g.natAbs * 1=g.natAbs * Nat.gcd c.natAbs d.natAbs:=by rw [Nat.mul_one]; exact na
  exact (Nat.eq_of_mul_eq_mul_left gp this).symm
 ·rw [Int.natAbs_mul]; exact Nat.le_mul_of_pos_left _ (by omega)
 ·rw [Int.natAbs_mul]; exact Nat.le_mul_of_pos_left _ (by omega)
end GM
theorem boot_abs:PySem.bootBuiltins "abs" = some (.builtin "abs"):=by decide +kernel
namespace G1
open PySem L2 GM
section
variable {P:Program} {w:World} {K:PySem.W.Frag} {mg:Str→Option Value} {base:Heap}
def yc:Sp:=fun vs H Q _=>∃a b:Int,vs=[.int a,.int b]∧Q (.int (gd a b)) H
theorem scG:FnScope ["one","other"] ["one","other"] (af sD):=⟨rfl,rfl,rfl,by decide +kernel,rfl,by decide +kernel,by decide +kernel⟩
theorem zj {f:Addr} {fd:FuncData} (F:FunG K "common_divisor" "common_divisor" sD .none f fd) (B:Bl mg):FnOk P w K mg base (CXE P w) 1 f fd ["one","other"] yc:=by
 refine F.okN scG (fun vs H Q E h=>?_) (fun cdv A outer s H vs Q E hr h=>?_)
 ·obtain ⟨a,b,rfl,_⟩:=h;rfl
 ·obtain ⟨a,b,rfl,q⟩:=h;refine ⟨_,cr (gy (i:=0) scG.nd rfl (Or.inl rfl) (dX iF (by rfl) B.abs boot_abs (bf (pv 0) dD)))
   (cr (gy (i:=1) scG.nd rfl (Or.inl rfl) (dX iF (by rfl) B.abs boot_abs (bf (pv 1) dD)))
   (cr (nP PassesOwn.never (jz ii (pv 1) bz (aG _))
    (dH (tT (i:=0) (j:=1) rfl scG.nd rfl rfl (by decide) rfl rfl (bf (pv 1) (bf (cR eQ (pv 0) (pv 1)) dD)) rfl)))
   (dH (io (pv 0))))),?_⟩
  refine ⟨_,rfl,a,rfl,_,rfl,b,rfl,?_⟩;refine nR (fun σ H'=>H'=H∧∃m n:Nat,σ=[some (.int m),some (.int n)]∧Nat.gcd m n=Nat.gcd a.natAbs b.natAbs) (fun σ _=>match σ with | [_,some (.int n)]=>n.toNat | _=>0)
   ⟨rfl,a.natAbs,b.natAbs,by simp only [nc]; rfl,rfl⟩ ?_ ?_
  ·rintro σ H' ⟨rfl,m,n,rfl,hg⟩;refine ⟨_,rfl,_,_,rfl,rfl,_,rfl,?_⟩;refine bE (fun hn=>?_) (fun hn=>?_)
   ·have hn':(0:Int) < n:=of_decide_eq_true hn;refine ⟨_,rfl,_,rfl,_,rfl,_,_,rfl,rfl,hn',_,_,rfl,⟨rfl,n,m % n,?_,?_⟩,?_⟩
    ·show [some (V.int n),some (V.int ((m:Int) % n))]=_;rw [← Int.natCast_emod]
    ·rw [oE]; exact hg
    ·show ((m:Int) % n).toNat < (n:Int).toNat;have:=Int.emod_lt_of_pos (m:Int) hn';have:=Int.emod_nonneg (m:Int) (show (n:Int)≠0 by omega);omega
   ·have hn':¬(0:Int) < n:=fun z=>hn (decide_eq_true z);refine ⟨_,rfl,?_⟩;have n0:n=0:=by omega
    rw [n0,Nat.gcd_zero_right] at hg;rw [hg];exact q
  ·rintro σ H' Q1 Q2 h ⟨v,e,i,j,e1,e2,x,e3,z⟩;exact ⟨v,e,i,j,e1,e2,x,e3,h _ _ z⟩
end
structure FracOf (a b c d:Int):Prop where
 g:∃g:Int,g≠0∧a=g * c∧b=g * d
 pos:0 < d
 low:Nat.gcd c.natAbs d.natAbs=1
 top:c.natAbs≤a.natAbs
 bot:d.natAbs≤b.natAbs
section
variable {P:Program} {w:World} {K:PySem.W.Frag} {mg:Str→Option Value} {base:Heap}
def yd:Sp:=fun vs H Q _=>∃a b:Int,vs=[.int a,.int b]∧0 < b∧b.natAbs < big∧∀p c d,H p=none→FracOf a b c d→(Nat.gcd a.natAbs b.natAbs=1→c=a∧d=b)→Q (.ref p) (upd H p (.tup [.int c,.int d]))
theorem scLo:FnScope ["_law_top","_law_bottom","_law_one","_law_other"] ["_law_top","_law_bottom"] (af g7):=⟨rfl,rfl,rfl,by decide +kernel,rfl,by decide +kernel,by decide +kernel⟩
theorem zk {f:Addr} {fd:FuncData} (F:FunG K "_law_lowest" "_law_lowest" g7 .none f fd) (B:Bl mg):FnOk P w K mg base (CXE P w) 1 f fd ["_law_top","_law_bottom"] yd:=by
 refine F.okN scLo (fun vs H Q E h=>?_) (fun cdv A outer s H vs Q E hr h=>?_)
 ·obtain ⟨a,b,rfl,_⟩:=h;rfl
 ·obtain ⟨a,b,rfl,hb,hbb,q⟩:=h;refine ⟨_,cr (gy (i:=2) scLo.nd rfl (Or.inl rfl) (pv 1))
   (cr (gy (i:=3) scLo.nd rfl (Or.inl rfl) (dX iF (by rfl) B.abs boot_abs (bf (pv 0) dD)))
   (cr (nP PassesOwn.never (jz ii (pv 3) bz (aG _))
    (dH (tT (i:=2) (j:=3) rfl scLo.nd rfl rfl (by decide) rfl rfl (bf (pv 3) (bf (cR eQ (pv 2) (pv 3)) dD)) rfl)))
   (dH (io (ub (bf (cR nW (pv 0) (pv 2)) (bf (cR nW (pv 1) (pv 2)) dD))))))),?_⟩
  refine ⟨_,rfl,_,rfl,a,rfl,?_⟩;refine nR (fun σ H'=>H'=H∧∃m n:Nat,σ=[some (.int a),some (.int b),some (.int m),some (.int n)]∧Nat.gcd m n=Nat.gcd b.natAbs a.natAbs) (fun σ _=>match σ with | [_,_,_,some (.int n)]=>n.toNat | _=>0)
   ⟨rfl,b.natAbs,a.natAbs,?_,rfl⟩ ?_ ?_
  ·rw [nc,show ((b.natAbs:Nat):Int)=b by omega]; rfl
  ·rintro σ H' ⟨rfl,m,n,rfl,hg⟩;refine ⟨_,rfl,_,_,rfl,rfl,_,rfl,?_⟩;refine bE (fun hn=>?_) (fun hn=>?_)
   ·have hn':(0:Int) < n:=of_decide_eq_true hn;refine ⟨_,rfl,_,rfl,_,rfl,_,_,rfl,rfl,hn',_,_,rfl,⟨rfl,n,m % n,?_,?_⟩,?_⟩
    ·show [some (V.int a),some (V.int b),some (V.int n),some (V.int ((m:Int) % n))]=_;rw [← Int.natCast_emod]
    ·rw [oE]; exact hg
    ·show ((m:Int) % n).toNat < (n:Int).toNat;have:=Int.emod_lt_of_pos (m:Int) hn';have:=Int.emod_nonneg (m:Int) (show (n:Int)≠0 by omega);omega
   ·have hn':¬(0:Int) < n:=fun z=>hn (decide_eq_true z);have n0:n=0:=by omega
    rw [n0,Nat.gcd_zero_right,Nat.gcd_comm] at hg;have mg:(m:Int)=gd a b:=by unfold gd; rw [hg]
    have nb:b≠0:=by omega
    have gp:=uN (a:=a) nb;have gl:=An (a:=a) nb;obtain ⟨c,d,e1,e2,e3,e4,dp,gg,la,lb⟩:=zi (a:=a) (b:=b) (g:=(m:Int)) nb (.inl mg) (by omega);have g0:(m:Int)≠0:=by omega
    have gb:(m:Int).natAbs < big:=Nat.lt_of_le_of_lt (by omega) hbb;refine ⟨_,rfl,_,rfl,_,_,rfl,rfl,⟨g0,gb⟩,_,rfl,_,rfl,_,_,rfl,rfl,⟨g0,gb⟩,by show 2≤sizeLine; decide,fun p hp=>?_⟩;show Q (V.ref p) (upd H' p (HO.tup [V.int (a.fdiv m),V.int (b.fdiv m)]));rw [e1,e2];refine q p c d hp ⟨⟨m,g0,e3,e4⟩,dp,gg,la,lb⟩ fun one=>?_;rw [one] at hg;rw [hg] at e3 e4;constructor
    ·omega
    ·omega
  ·rintro σ H' Q1 Q2 h ⟨v,e,i,j,e1,e2,x,e3,z⟩;exact ⟨v,e,i,j,e1,e2,x,e3,h _ _ z⟩
end
section
variable {P:Program} {w:World} {K:PySem.W.Frag} {mg:Str→Option Value} {base:Heap} {c:List Addr}
theorem aF {H:Hp} {p:Addr} {o:HO} (h:H p=none):Same H (upd H p o):=fun b u e=>by rw [am (ak e h)]; exact e
structure Src (H:Hp) (p:Addr):Prop where
 ex:∃n s:Int,H p=some (.lst [.int n,.int s])∧0≤n∧0≤s∧s < 2147483647
def iP:Sp:=fun vs H Q _=>∃x k:Int,vs=[.int x,.int k]∧0≤k∧k≤1000∧∀p H',H p=none→Src H' p→(∀b,b≠p→H' b=H b)→Q (.ref p) H'
theorem scS:FnScope ["_law_cell_here","_law_k","_law_number","_law_seed"] ["_law_cell_here","_law_k"] (af g6):=⟨rfl,rfl,rfl,by decide +kernel,rfl,by decide +kernel,by decide +kernel⟩
theorem sF {f:Addr} {fd:FuncData} (F:FunG K "_law_source" "_law_source" g6 .none f fd) (B:Bl mg):FnOk P w K mg base (CXE P w) 1 f fd ["_law_cell_here","_law_k"] iP:=by
 refine F.okN scS (fun vs H Q E h=>?_) (fun cdv A outer s H vs Q E hr h=>?_)
 ·obtain ⟨x,k,rfl,_⟩:=h;rfl
 ·obtain ⟨x,k,rfl,k0,k1,q⟩:=h;refine ⟨_,cr (gy (i:=2) scS.nd rfl (Or.inl rfl) (dX iF (by rfl) B.abs boot_abs (bf (pv 0) dD)))
   (cr (gy (i:=3) scS.nd rfl (Or.inl rfl) (cR eQ (cR ip (cR cB (cR cB (cR eQ (pv 2) bz) (cR ip bz (pv 1))) bz) bz) bz))
   (dH (io (uc (bf (cR ip (pv 2) (lw rR (by rfl) B.int boot_int (bf (qB z6 (pv 2) (cR tW bz bz) (aG _)) dD))) (bf (pv 3) dD)))))),?_⟩
  refine ⟨_,rfl,x,rfl,?_⟩;rw [nc];have m0:(0:Int)≤((x.natAbs:Nat):Int) % 1000003:=Int.emod_nonneg _ (by decide);have m1:((x.natAbs:Nat):Int) % 1000003 < 1000003:=Int.emod_lt_of_pos _ (by decide);refine ⟨_,rfl,_,_,rfl,rfl,(by show (0:Int) < 1000003; decide),_,rfl,_,_,rfl,rfl,.inl ⟨by decide,by decide⟩,_,_,rfl,rfl,_,_,rfl,rfl,_,_,rfl,rfl,.inr ⟨by decide,by decide⟩,_,_,rfl,rfl,(by show (0:Int) < 2147483647; decide),?_⟩;refine ⟨_,rfl,_,rfl,_,_,rfl,rfl,⟨by decide,by decide,by decide⟩,_,_,rfl,rfl,.inr ⟨_,rfl,_,_,rfl,rfl,.inr (by split <;> constructor <;> decide),_,rfl,by show 2≤sizeLine; decide,fun p hp=>?_⟩⟩;refine q p _ hp ⟨_,_,ai,?_,Int.emod_nonneg _ (by decide),Int.emod_lt_of_pos _ (by decide)⟩ fun b hb=>am hb
  split
  ·omega
  ·omega
def fQ:Sp:=fun vs H Q _=>∃(p:Addr) (m:Int),vs=[.ref p,.int m]∧Src H p∧0 < m∧m.natAbs < big∧∀d H',0≤d→d < m→Src H' p→(∀b,b≠p→H' b=H b)→Q (.int d) H'
theorem scD:FnScope ["_law_source_here","_law_many","_law_digit"] ["_law_source_here","_law_many"] (af lP):=⟨rfl,rfl,rfl,by decide +kernel,rfl,by decide +kernel,by decide +kernel⟩
theorem wW {f:Addr} {fd:FuncData} (F:FunG K "_law_draw" "_law_draw" lP .none f fd):FnOk P w K mg base (CXE P w) 1 f fd ["_law_source_here","_law_many"] fQ:=by
 refine F.okN scD (fun vs H Q E h=>?_) (fun cdv A outer s H vs Q E hr h=>?_)
 ·obtain ⟨p,m,rfl,_⟩:=h;rfl
 ·obtain ⟨p,m,rfl,⟨n,sd,hp,n0,s0,s1⟩,m0,mb,q⟩:=h;refine ⟨_,cr (xO (jz ii (jO bi (pv 0) bz (fun _ _=>rfl)) bz (aG _))
    (cr (gy (i:=2) scD.nd rfl (Or.inl rfl) (cR eQ (jO bi (pv 0) bz (fun _ _=>rfl)) (pv 1)))
    (cr (pE (cR uf (jO bi (pv 0) bz (fun _ _=>rfl)) (pv 1)) (tS (pv 0) bz nV))
    (dH (io (pv 2))))) qu)
   (cr (pE (cR eQ (cR cB (cR ip (jO bi (pv 0) bz (fun _ _=>rfl)) bz) bz) bz) (tS (pv 0) bz nV))
   (dH (io (cR eQ (cR wk (cR eQ (cR ip (jO bi (pv 0) bz (fun _ _=>rfl)) (jO bi (pv 0) bz (fun _ _=>rfl))) bz) bz) (pv 1))))),?_⟩
  have st:SqL K H p [.int n,.int sd]:=SqL.of hp;refine ⟨_,rfl,p,_,_,_,rfl,rfl,st,rfl,_,_,rfl,rfl,_,rfl,?_⟩;refine bE (fun hn=>?_) (fun hn=>?_)
  ·have n1:(0:Int) < n:=of_decide_eq_true hn;refine ⟨_,rfl,p,_,_,_,rfl,rfl,st,rfl,_,rfl,_,_,rfl,rfl,m0,?_⟩;refine ⟨_,rfl,p,_,_,_,rfl,rfl,st,rfl,_,rfl,_,_,rfl,rfl,⟨m0,mb⟩,_,rfl,p,_,_,0,rfl,rfl,hp,rfl,?_⟩;refine ⟨_,rfl,?_⟩;exact q _ _ (Int.emod_nonneg _ (by omega)) (Int.emod_lt_of_pos _ m0) ⟨_,_,ai,Int.ediv_nonneg n0 (by omega),s0,s1⟩ fun b hb=>am hb
  ·refine ⟨_,rfl,p,_,_,_,rfl,rfl,st,rfl,_,_,rfl,rfl,.inr ⟨by decide,by decide⟩,_,_,rfl,rfl,_,_,rfl,rfl,(by show (0:Int) < 2147483647; decide),_,rfl,p,_,_,1,rfl,rfl,hp,rfl,?_⟩;have t0:(0:Int)≤(sd * 48271 + 11) % 2147483647:=Int.emod_nonneg _ (by decide);have t1:(sd * 48271 + 11) % 2147483647 < 2147483647:=Int.emod_lt_of_pos _ (by decide);have st2:SqL K (upd H p (.lst [.int n,.int ((sd * 48271 + 11) % 2147483647)])) p [.int n,.int ((sd * 48271 + 11) % 2147483647)]:=SqL.of ai;refine ⟨_,rfl,p,_,_,_,rfl,rfl,st2,rfl,_,rfl,p,_,_,_,rfl,rfl,st2,rfl,_,_,rfl,rfl,.inl ⟨by show _ < (sd * 48271 + 11) % 2147483647; omega,by show (sd * 48271 + 11) % 2147483647 < _; omega⟩,_,_,rfl,rfl,(by show (0:Int) < 2147483629; decide),_,_,rfl,rfl,⟨by decide,by decide⟩,_,rfl,_,_,rfl,rfl,m0,?_⟩;exact q _ _ (Int.emod_nonneg _ (by omega)) (Int.emod_lt_of_pos _ m0) ⟨_,_,ai,n0,t0,t1⟩ fun b hb=>am hb
end
end G1
namespace L2
open PySem PySem.Spec PyProof.Rows
def Ao (t:TS):TS:=fun D σ H=>∃J:St→Hp→Prop,t {D with nx:=J} σ H∧∀σ' H',J σ' H'→D.nx σ' H'
theorem zn {X:Cx} {st:Stmt} {t:TS} (h:PS X st t):PS X st (Ao t):=by
 intro pins s σ H D I hw;obtain ⟨J,h1,h2⟩:=hw;refine thn (h pins s σ H _ I h1) fun f s1 q=>?_;cases f with
 | next=>
  obtain ⟨σ',H',I',q⟩:=q;exact ⟨σ',H',I',h2 σ' H' q⟩
 | ret v=>exact q
 | brk=>exact q
 | cont=>exact q
section
variable {X:Cx} {es:List Expr} {t:TA} {te:TE} {pos:Pos} {l r:List Expr} {k:Nat} {o:Operator} {a b:Expr} {cst:Const} {x:Str} {u:UnaryOp} {kw:List Keyword} {f:Expr}
theorem Ap (ha:PE X (.Constant cst k pos) te) (hr:PA X es t):PA X (.Constant cst k pos :: es) (dB te t):=bf ha hr rfl
theorem Aq (ha:PE X (.Name x pos) te) (hr:PA X es t):PA X (.Name x pos :: es) (dB te t):=bf ha hr rfl
theorem As (ha:PE X (.List l pos) te) (hr:PA X es t):PA X (.List l pos :: es) (dB te t):=bf ha hr rfl
theorem At (ha:PE X (.Tuple l k pos) te) (hr:PA X es t):PA X (.Tuple l k pos :: es) (dB te t):=bf ha hr rfl
theorem Au (ha:PE X (.BinOp a o b pos) te) (hr:PA X es t):PA X (.BinOp a o b pos :: es) (dB te t):=bf ha hr rfl
theorem Av (ha:PE X (.Call f l kw pos) te) (hr:PA X es t):PA X (.Call f l kw pos :: es) (dB te t):=bf ha hr rfl
theorem Aw (ha:PE X (.Subscript a b pos) te) (hr:PA X es t):PA X (.Subscript a b pos :: es) (dB te t):=bf ha hr rfl
end
end L2
namespace G1
open PySem L2 GM
def Ext (p:Addr) (H H':Hp):Prop:=∀b o,b≠p→H b=some o→H' b=some o
theorem Ext.refl {p:Addr} {H:Hp}:Ext p H H:=fun _ _ _ h=>h
theorem Ext.trans {p:Addr} {H H1 H2:Hp} (a:Ext p H H1) (b:Ext p H1 H2):Ext p H H2:=fun c o n h=>b c o n (a c o n h)
theorem Ext.of_eq {p:Addr} {H H':Hp} (h:∀b,b≠p→H' b=H b):Ext p H H':=fun b o n e=>(h b n).trans e
theorem Ext.new {p l:Addr} {H:Hp} {o:HO} (h:H l=none):Ext p H (upd H l o):=fun b u _ e=>by rw [am (ak e h)]; exact e
theorem Src.new {H:Hp} {p l:Addr} {o:HO} (s:Src H p) (h:H l=none):Src (upd H l o) p:=by
 obtain ⟨n,d,e,r⟩:=s.ex;exact ⟨n,d,by rw [am (ak e h)]; exact e,r⟩
theorem Src.ne {H:Hp} {p l:Addr} (s:Src H p) (h:H l=none):l≠p:=fun z=>by
 obtain ⟨n,d,e,_⟩:=s.ex;rw [← z,h] at e; cases e
end G1
namespace L2
open PySem PySem.Spec PyProof.Rows
structure SPE (X:Cx) (e:Expr) (t:TE):Prop where
 out:PE X e t
structure SPT (X:Cx) (e:Expr) (t:TT):Prop where
 out:PT X e t
structure SPW (X:Cx) (e:Expr) (t:TT):Prop where
 out:PW X e t
structure SPA (X:Cx) (es:List Expr) (t:TA):Prop where
 out:PA X es t
structure SPS (X:Cx) (st:Stmt) (t:TS):Prop where
 out:PS X st t
structure SPSs (X:Cx) (st:List Stmt) (t:TS):Prop where
 out:PSs X st t
structure SPG (X:Cx) (e:Expr) (t:TG):Prop where
 out:PG X e t
structure SPGs (X:Cx) (es:List Expr) (t:TGs):Prop where
 out:PGs X es t
structure SPI (X:Cx) (tg e:Expr) (t:TI):Prop where
 out:PI X tg e t
structure SPEX (X:Cx) (e:Expr) (t:TEX):Prop where
 out:PEX X e t
structure SPSX (X:Cx) (st:List Stmt) (t:TSX):Prop where
 out:PSX X st t
structure SPC (X:Cx) (op:CmpOp) (a b:Expr) (t:TE):Prop where
 out:PC X op a b t
structure SPO (X:Cx) (e:Option Expr) (t:TO):Prop where
 out:PO X e t
theorem SPW.pt {X:Cx} {e:Expr} {t:TT} (h:SPW X e t):SPT X e t:=⟨h.out.pt⟩
section
variable {X:Cx}
theorem zpv (i:Nat) {x:Str} {pos:Pos} (hN:X.N[i]? = some x:=by rfl) (hv:Vis X.env.scope x:=by first | exact Or.inl rfl | exact Or.inr (Or.inl rfl) | exact Or.inr (Or.inr rfl)) (hd:(x == ("__debug__" : Str))=false:=by decide) (hcd:(x == ("__classdict__" : Str))=false:=by decide):SPE X (.Name x pos) (vW i):=⟨pv i hN hv hd hcd⟩
theorem ag {i j pos}:SPE X (.Constant (.int i) j pos) (tC (.int i)):=⟨bz ⟩
theorem bQ {b j pos}:SPE X (.Constant (.bool b) j pos) (tC (.bl b)):=⟨zL ⟩
theorem hX {j pos}:SPE X (.Constant .none j pos) (tC .non):=⟨yx ⟩
theorem cj {x j pos}:SPE X (.Constant (.str x) j pos) (tC (.str x)):=⟨yy ⟩
theorem bq {x:Str} {v:V} {u:Value} {pos:Pos} (hg:Gl X x) (hm:X.mg x=some u) (r:RelV v u) (hd:(x == ("__debug__" : Str))=false:=by decide):SPE X (.Name x pos) (tC v):=⟨vX hg hm r hd⟩
theorem ba {x:Str} {v:V} {u:Value} {pos:Pos} (hg:Gl X x) (hm:X.mg x=none) (hv:bootBuiltins x=some u) (r:RelV v u) (hn:x≠"__name__":=by decide) (hd:(x == ("__debug__" : Str))=false:=by decide):SPE X (.Name x pos) (tC v):=⟨mq hg hm hv r hn hd⟩
end
section
variable {X:Cx} {a b:Expr} {ta tb:TE} {pos:Pos} {tA tB':TT} {rest:List Expr}
theorem iQ {op} {t:TE} (h:SPE X a t):SPE X (.BoolOp op [a] pos) t:=⟨tN h.out⟩
theorem hZ (ha:SPE X a ta) (hb:SPE X (.BoolOp .And (b :: rest) pos) tb):SPE X (.BoolOp .And (a :: b :: rest) pos) (xK ta tb):=⟨tO ha.out hb.out⟩
theorem zo (ha:SPE X a ta) (hb:SPE X (.BoolOp .Or (b :: rest) pos) tb):SPE X (.BoolOp .Or (a :: b :: rest) pos) (zP ta tb):=⟨zQ ha.out hb.out⟩
theorem wX (ha:SPE X a ta):SPE X (.UnaryOp .Not a pos) (xL ta):=⟨tP ha.out⟩
end
section
variable {X:Cx} {a b:Expr} {ta tb:TE} {pos:Pos}
theorem uO {j pos'} (ha:SPE X a ta):SPC X .IsNot a (.Constant .none j pos') (xJ ta):=⟨vY ha.out⟩
theorem ng {op:CmpOp} {t:TE} (h:SPC X op a b t) (h1:behindInMarks op b=false:=by first | exact nO _ (by decide) (by decide) | rfl):SPT X (.Compare a [op] [b] pos) (tB t):=⟨yz h.out h1⟩
theorem aI {e:Expr} {t:TE} (h:SPE X e t) (he:∀whole,isTrue e X.env whole=(do let v ← whole; standAt e.pos; holding [v] (truthy v)):=by intro _; rfl):SPT X e (tB t):=⟨yA h.out he⟩
end
section
variable {X:Cx} {a b:Expr} {ta tb:TE} {pos:Pos} {tA tB':TT} {rest:List Expr}
theorem iR (ha:SPT X a tA):SPW X (.BoolOp .And [a] pos) tA:=⟨vZ ha.out⟩
theorem bh (ha:SPT X a tA):SPW X (.BoolOp .Or [a] pos) tA:=⟨yB ha.out⟩
theorem iS (ha:SPT X a tA) (hb:SPW X (.BoolOp .And (b :: rest) pos) tB'):SPW X (.BoolOp .And (a :: b :: rest) pos) (zM tA tB'):=⟨yC ha.out hb.out⟩
theorem be (ha:SPT X a tA) (hb:SPW X (.BoolOp .Or (b :: rest) pos) tB'):SPW X (.BoolOp .Or (a :: b :: rest) pos) (tOr tA tB'):=⟨zO ha.out hb.out⟩
theorem aR (ha:SPT X a tA):SPT X (.UnaryOp .Not a pos) (zN tA):=⟨yD ha.out⟩
end
section
variable {X:Cx} {st:Stmt} {rest:List Stmt} {t u:TS} {e:Expr} {te:TE} {pos:Pos}
theorem az  : SPSs X [] xM:=⟨qu ⟩
theorem ae (h1:SPS X st t) (h2:SPSs X rest u):SPSs X (st :: rest) (zR t u):=⟨cr h1.out h2.out⟩
theorem ah (h1:SPS X st t):SPSs X [st] t:=⟨dH h1.out⟩
theorem bK (he:SPE X e te) (hs:swapsWith e none pos.line X.env=pure false:=by rfl):SPS X (.Expr e pos) (xN te):=⟨wa he.out hs⟩
theorem ay (he:SPE X e te):SPS X (.Return (some e) pos) (zS te):=⟨io he.out⟩
theorem aH {c:Expr} {a b:List Stmt} {tc:TT} (hc:SPT X c tc) (ha:SPSs X a t) (hb:SPSs X b u):SPS X (.If c a b pos) (zT tc t u):=⟨xO hc.out ha.out hb.out⟩
end
section
variable {X:Cx} {pos:Pos}
theorem aq {i:Nat} {x:Str} (hN:X.N.Nodup) (hi:X.N[i]? = some x) (hx:Loc X.env.scope x) (hf:X.fn x=true∨X.env.scope.names.lookup x=some .local:=by first | exact .inl rfl | exact .inr rfl | assumption):SPG X (.Name x pos) (cF i):=⟨wc hN hi hx hf⟩
theorem bw  : SPGs X [] zV:=⟨we ⟩
theorem aE {e:Expr} {es:List Expr} {t:TG} {u:TGs} (h1:SPG X e t) (h2:SPGs X es u) (hs:(assignEach (e :: es) X.env).map (·.2)=assign e X.env :: (assignEach es X.env).map (·.2):=by rfl):SPGs X (e :: es) (xP t u):=⟨tR h1.out h2.out hs⟩
theorem df {es:List Expr} {k:Nat} {t:TGs} {n:Nat} (hc:X.calm=true) (h:SPGs X es t) (hn:(assignEach es X.env).length=n:=by rfl) (hst:(assignEach es X.env).findIdx? (·.1)=none:=by rfl):SPG X (.Tuple es k pos) (yF X.K n t):=⟨yG hc h.out hn hst⟩
theorem eL {tg e:Expr} {te:TE} {g:TG} (he:SPE X e te) (hg:SPG X tg g) (hs:swapsWithSole [tg] e pos.line X.env=pure false:=by rfl) (hw:swappedStores [tg] e X.env=pure none:=by rfl) (h1:(assignEach [tg] X.env).map (·.2)=[assign tg X.env]:=by rfl):SPS X (.Assign [tg] e pos) (wf te g):=⟨pE he.out hg.out hs hw h1⟩
theorem ax {i:Nat} {x:Str} {e:Expr} {te:TE} {pos':Pos} (hN:X.N.Nodup) (hi:X.N[i]? = some x) (hx:Loc X.env.scope x) (he:SPE X e te) (hs:swapsWith e (some (.Name x pos')) pos.line X.env=pure false:=by rfl) (hf:X.fn x=true∨X.env.scope.names.lookup x=some .local:=by first | exact .inl rfl | exact .inr rfl | assumption):SPS X (.Assign [.Name x pos'] e pos) (wf te (cF i)):=⟨gy hN hi hx he.out hs hf⟩
end
section
variable {X:Cx} {tg:Expr}
theorem aQ {l:Expr} {tl:TE} (hl:SPE X l tl):SPI X tg l (tV X.K tl):=⟨wg hl.out⟩
theorem wY {l:Expr} {tl:TE} (hl:SPE X l tl):SPI X tg l (zW X.K tl):=⟨yH hl.out⟩
theorem dw {a:Expr} {ta:TA} {p pos:Pos} (hg:Gl X "range") (hm:X.mg "range" = none) (ha:SPA X [a] ta) (hs:starEach [a] X.env=[(false,eval a X.env)]:=by rfl):SPI X tg (.Call (.Name "range" p) [a] [] pos) (xQ ta):=⟨rN hg hm ha.out hs⟩
theorem j0 {a b:Expr} {ta:TA} {p pos:Pos} (hg:Gl X "range") (hm:X.mg "range" = none) (ha:SPA X [a,b] ta) (hs:starEach [a,b] X.env=[(false,eval a X.env),(false,eval b X.env)]:=by rfl) (hs2:starEach [b] X.env=[(false,eval b X.env)]:=by rfl):SPI X tg (.Call (.Name "range" p) [a,b] [] pos) (xR ta):=⟨rO hg hm ha.out hs hs2⟩
end
section
variable {X:Cx} {es:List Expr} {tk:Nat} {tpos:Pos}
theorem uP {l:Expr} {ta:TA} {p pos:Pos} (hg:Gl X "enumerate") (hm:X.mg "enumerate" = none) (ha:SPA X [l] ta) (hs:starEach [l] X.env=[(false,eval l X.env)]:=by rfl):SPI X (.Tuple es tk tpos) (.Call (.Name "enumerate" p) [l] [] pos) (xW X.K ta):=⟨wv hg hm ha.out hs⟩
end
section
variable {X:Cx} {tg:Expr}
theorem cE {iter:Expr} {body:List Stmt} {wi:TI} {g:TG} {tb:TS} {pos:Pos} (hp:PassesOwn (model X.prog X.w) X.A X.env X.xe) (hc:X.calm=true) (hi:SPI X tg iter wi) (hg:SPG X tg g) (hb:SPSs X body tb) (hs:∀x,foldedSetIterable iter X.env x=pure x:=by intro _; rfl):SPS X (.For tg iter body [] pos) (zX wi g tb):=⟨yI hp hc hi.out hg.out hb.out hs⟩
end
section
variable {X:Cx} {a b c:Expr} {ta tb tc:TE} {pos:Pos}
theorem aS {op:Operator} {r:R2} (ho:OpR X (binaryOp op) r) (ha:SPE X a ta) (hb:SPE X b tb):SPE X (.BinOp a op b pos) (tOp r ta tb):=⟨cR ho ha.out hb.out⟩
theorem j1 {op:UnaryOp} {r:V→Hp→VK→Prop} (ho:UnR X (unaryOp op) r) (ha:SPE X a ta):SPE X (.UnaryOp op a pos) (tUn r ta):=⟨xS ho ha.out⟩
theorem bx {op:CmpOp} {r:R2} (ho:OpR X (compareOp op) r) (ha:SPE X a ta) (hb:SPE X b tb) (hm:behindInMarks op b=false):SPE X (.Compare a [op] [b] pos) (tOp r ta tb):=⟨qB ho ha.out hb.out hm⟩
theorem aA {op:CmpOp} {r:R2} (ho:OpR X (compareOp op) r) (ha:SPE X a ta) (hb:SPE X b tb) (hm:behindInMarks op b=false):SPT X (.Compare a [op] [b] pos) (qC (tOp r ta tb)):=⟨jz ho ha.out hb.out hm⟩
theorem sH {op op':CmpOp} {r r':R2} (ho:OpR X (compareOp op) r) (ho':OpR X (compareOp op') r') (ha:SPE X a ta) (hb:SPE X b tb) (hc:SPE X c tc) (hm:lastMarks [op,op'] [b,c]=false:=by with_unfolding_all rfl):SPT X (.Compare a [op,op'] [b,c] pos) (qC (tY r r' ta tb tc)):=⟨tZ ho ho' ha.out hb.out hc.out hm⟩
theorem sI (ha:SPE X a ta) (he:∀whole,isTrue a X.env whole=(do let v ← whole; standAt a.pos; holding [v] (truthy v))):SPT X a (fun σ H Q=>ta σ H fun x H'=>∃k,yL X.K x H' k∧Q k H'):=⟨ua ha.out he⟩
end
section
variable {X:Cx} {e:Expr} {es:List Expr} {te:TE} {t:TA} {pos:Pos}
theorem aY {x1} (h:SPA X es t):SPE X (.Tuple es x1 pos) (z7 t):=⟨ub h.out⟩
theorem aO (h:SPA X es t):SPE X (.List es pos) (z8 t):=⟨uc h.out⟩
end
section
variable {X:Cx} {CX:CXT} {k:Nat} {f C:Addr} {fd:FuncData} {ps:List Str} {sp:Sp} {dvs:List V} {ds:List Value} {E:XK} {x m:Str} {p pos apos:Pos} {e o:Expr} {es:List Expr} {ta:TE} {t:TA}
theorem aj (F:FnOk X.prog X.w X.K X.mg X.base CX k f fd ps sp) (hr:Room k X.A) (hg:Gl X x) (hm:X.mg x=some (.ref f)) (hk:PySem.W.keepIn X.K (.ref f)=true) (hb:Binds X.K fd ps ds) (hd:Vals dvs ds) (hx:jN CX X E) (ha:SPA X (e :: es) t) (hdb:(x == ("__debug__" : Str))=false:=by decide) (he:starEach (e :: es) X.env=(false,eval e X.env) :: starEach es X.env:=by rfl) (hpl:(backTo pos (starEach es X.env)).any (·.1)=false:=by rfl):SPE X (.Call (.Name x p) (e :: es) [] pos) (xT sp dvs E t):=⟨wq F hr hg hm hk hb hd hx ha.out hdb he hpl⟩
end
section
variable {X:Cx} {x:Str} {p pos:Pos} {e:Expr} {es:List Expr} {t:TA} {id T:String} {r:List V→Hp→VK→Prop}
theorem au (hc:dl X (.builtin id) r) (hg:Gl X x) (hm:X.mg x=none) (hv:bootBuiltins x=some (.builtin id)) (ha:SPA X (e :: es) t) (hn:x≠"__name__":=by decide) (hdb:(x == ("__debug__" : Str))=false:=by decide) (he:starEach (e :: es) X.env=(false,eval e X.env) :: starEach es X.env:=by rfl) (hpl:(backTo pos (starEach es X.env)).any (·.1)=false:=by rfl):SPE X (.Call (.Name x p) (e :: es) [] pos) (tCB r t):=⟨dX hc hg hm hv ha.out hn hdb he hpl⟩
theorem fV (hc:dl X (.type T) r) (hg:Gl X x) (hm:X.mg x=none) (hv:bootBuiltins x=some (.type T)) (ha:SPA X (e :: es) t) (hn:x≠"__name__":=by decide) (hdb:(x == ("__debug__" : Str))=false:=by decide) (he:starEach (e :: es) X.env=(false,eval e X.env) :: starEach es X.env:=by rfl) (hpl:(backTo pos (starEach es X.env)).any (·.1)=false:=by rfl):SPE X (.Call (.Name x p) (e :: es) [] pos) (tCB r t):=⟨lw hc hg hm hv ha.out hn hdb he hpl⟩
theorem oG (hc:dl X (.type T) r) (hg:Gl X x) (hm:X.mg x=none) (hv:bootBuiltins x=some (.type T)) (hn:x≠"__name__":=by decide) (hdb:(x == ("__debug__" : Str))=false:=by decide):SPE X (.Call (.Name x p) [] [] pos) (tCB r wn):=⟨pJ hc hg hm hv hn hdb⟩
end
section
variable {X:Cx} {e:Expr} {te:TE} {lo hi:Option Expr} {tl th:TO} {pos p2:Pos}
theorem ce {r:V→Option Int→Option Int→Hp→VK→Prop} (hr:SlR X r) (he:SPE X e te) (hl:SPO X lo tl) (hu:SPO X hi th):SPE X (.Subscript e (.Slice lo hi none p2) pos) (tSl r te tl th):=⟨ud hr he.out hl.out hu.out⟩
theorem cG  : SPO X none qD:=⟨wr ⟩
theorem cH (h:SPE X e te):SPO X (some e) (xV te):=⟨qE h.out⟩
end
section
variable {X:Cx} {a b:Expr} {ta tb:TE} {pos:Pos}
theorem aJ {r:R2} (hr:IxR X r) (ha:SPE X a ta) (hb:SPE X b tb) (hs:qG b):SPE X (.Subscript a b pos) (tOp r ta tb):=⟨jO hr ha.out hb.out hs⟩
end
section
variable {X:Cx} {a b:Expr} {ta tb:TE} {pos:Pos} {o e:Expr} {es:List Expr} {to:TE} {t:TA} {name:Str} {apos cpos:Pos} {T id:String} {r:V→List V→Hp→VK→Prop}
theorem dg (pa:PlainAttrs T) (slot:Slot T name id) (hty:typeOf (.builtin id)=pure (.type "method_descriptor")) (hm:MtR X id r) (ho:SPE X o to) (ha:SPA X (e :: es) t) (hbase:attributeBase o name X.env (eval o X.env)=eval o X.env:=by rfl) (hfew:((backTo cpos (starEach (e :: es) X.env)).all (fun x=>!x.1) && (backToKw cpos (keywordEach [] X.env)).all (fun x=>x.1.isSome)
   && decide ((e :: es).length + ([]:List Keyword).length + (if ([]:List Keyword).isEmpty then 0 else 1) < 30))=true:=by rfl) (hline:(apos.endLine == cpos.line)=true:=by rfl) (hs:starEach (e :: es) X.env=(false,eval e X.env) :: starEach es X.env:=by rfl) (hplain:(backTo cpos (starEach es X.env)).any (·.1)=false:=by rfl):SPE X (.Call (.Attribute o name apos) (e :: es) [] cpos) (tBM X.K T r to t):=⟨Ab pa slot hty hm ho.out ha.out hbase hfew hline hs hplain⟩
end
section
variable {X:Cx} {e:Expr} {es:List Expr} {te:TE} {t:TA} {pos:Pos}
theorem aa  : SPA X [] wn:=⟨dD ⟩
end
section
theorem lS {X:Cx} {pos:Pos}:SPE X (.Dict [] [] pos) uo:=⟨uq ⟩
end
section
theorem dS {X:Cx} {x:Str} {C:Addr} {e0:Expr} {es:List Expr} {t:TA} {E:XK} {np cpos pos:Pos} (hth:∀(pins:List (Addr × Obj)) (σ:St) (H:Hp) (s:Shared) (h1:Heap) (e:Addr) (args:List Value),Inv X pins σ H s→Heap.MadeExcOf s.heap h1 e (.ref C) args→E (.ref C) none H→X.xe (.ref e) {s with heap:=h1}) (hc:X.calm=true) (hg:Gl X x) (hm:X.mg x=some (.ref C)) (q:my X.K C) (ha:SPA X (e0 :: es) t) (hd:(x == ("__debug__" : Str))=false:=by decide) (he:starEach (e0 :: es) X.env=(false,eval e0 X.env) :: starEach es X.env:=by rfl) (hp:(backTo cpos (starEach es X.env)).any (·.1)=false:=by rfl):SPS X (.Raise (some (.Call (.Name x np) (e0 :: es) [] cpos)) none pos) (ug C E t):=⟨uh hth hc hg hm q ha.out hd he hp⟩
end
section
variable {X:Cx} {k:Nat} {f:Addr} {fd:FuncData} {ps:List Str} {sp:Sp} {dvs:List V} {ds:List Value} {x:Str} {p pos:Pos} {e:Expr} {es:List Expr} {t:TA}
theorem sJ (F:FnOk X.prog X.w X.K X.mg X.base (CXE X.prog X.w) k f fd ps sp) (hr:Room k X.A) (hg:Gl X x) (hm:X.mg x=some (.ref f)) (hk:PySem.W.keepIn X.K (.ref f)=true) (hb:Binds X.K fd ps ds) (hd:Vals dvs ds) (ha:SPA X.nox (e :: es) t) (hdb:(x == ("__debug__" : Str))=false:=by decide) (he:starEach (e :: es) X.env=(false,eval e X.env) :: starEach es X.env:=by rfl) (hpl:(backTo pos (starEach es X.env)).any (·.1)=false:=by rfl):SPEX X (.Call (.Name x p) (e :: es) [] pos) (ui sp dvs t):=⟨uj F hr hg hm hk hb hd ha.out hdb he hpl⟩
theorem uQ {i:Nat} {y:Str} {te:TEX} {py:Pos} (hN:X.N.Nodup) (hi:X.N[i]? = some y) (hx:Loc X.env.scope y) (he:SPEX X e te) (hs:swapsWith e (some (.Name y py)) pos.line X.env=pure false:=by rfl) (hf:X.fn y=true∨X.env.scope.names.lookup y=some .local:=by first | exact .inl rfl | exact .inr rfl | assumption):SPSX X [.Assign [.Name y py] e pos] (fun D E σ H=>te σ H (fun v H1=>D.nx (σ.set i (some v)) H1) E):=⟨wz hN hi hx he.out hs hf⟩
end
section
theorem ge {X:Cx} {st:Stmt} {t:TS} (h:SPS X st t):SPS X st (Ao t):=⟨zn h.out⟩
end
section
variable {X:Cx} {es:List Expr} {t:TA} {te:TE} {pos:Pos} {l r:List Expr} {k:Nat} {o:Operator} {a b:Expr} {cst:Const} {x:Str} {u:UnaryOp} {kw:List Keyword} {f:Expr}
theorem aM (ha:SPE X (.Constant cst k pos) te) (hr:SPA X es t):SPA X (.Constant cst k pos :: es) (dB te t):=⟨Ap ha.out hr.out⟩
theorem ac (ha:SPE X (.Name x pos) te) (hr:SPA X es t):SPA X (.Name x pos :: es) (dB te t):=⟨Aq ha.out hr.out⟩
theorem eB (ha:SPE X (.List l pos) te) (hr:SPA X es t):SPA X (.List l pos :: es) (dB te t):=⟨As ha.out hr.out⟩
theorem cu (ha:SPE X (.Tuple l k pos) te) (hr:SPA X es t):SPA X (.Tuple l k pos :: es) (dB te t):=⟨At ha.out hr.out⟩
theorem cT (ha:SPE X (.BinOp a o b pos) te) (hr:SPA X es t):SPA X (.BinOp a o b pos :: es) (dB te t):=⟨Au ha.out hr.out⟩
theorem bt (ha:SPE X (.Call f l kw pos) te) (hr:SPA X es t):SPA X (.Call f l kw pos :: es) (dB te t):=⟨Av ha.out hr.out⟩
theorem cI (ha:SPE X (.Subscript a b pos) te) (hr:SPA X es t):SPA X (.Subscript a b pos :: es) (dB te t):=⟨Aw ha.out hr.out⟩
end
theorem pX {X:Cx} {body:List Stmt} {tb:TSX} {th:TS} {d n:Str} {D:Addr} {j:Nat} {b0:Stmt} {suite:List Stmt} {pd hpos pos:Pos} (hb:SPSX X body tb) (hN:X.N.Nodup) (hj:X.N[j]? = some n) (hx:X.env.scope.names.lookup n=some .local)
  (hst:X.stack=X.env :: X.outer) (hL:X.env.frame=some X.env.locals) (hg:Gl X d) (hm:X.mg d=some (.ref D)) (c:CatchK X.K D) (hs:∀e,SPSs (X.held e) (b0 :: suite) th) (hd:(d == ("__debug__" : Str))=false:=by decide) :
  SPS X (.Try body [.ExceptHandler (some (.Name d pd)) (some n) (b0 :: suite) hpos] [] [] pos) (uk X.K D j tb th):=⟨r6 hb.out hN hj hx hst hL hg hm c (fun e=>(hs e).out) hd⟩
structure SPTs (X:Cx) (ifs:List Expr) (t:TT):Prop where
 out:PTs X ifs t
theorem bM {X:Cx}:SPTs X [] (fun _ H Q=>Q true H):=⟨wE⟩
theorem dh {X:Cx} {e:Expr} {t:TT} (h:SPT X e t):SPTs X [e] t:=⟨wF h.out⟩
section
variable {X:Cx} {tg iter elt:Expr} {ifs:List Expr} {scope esc:Scope} {pos gpos p:Pos} {N os:List Str} {fi:List Nat} {wi:TI} {g:TG} {tt:TT} {te:TE} {c P:Addr} {k:Nat}
theorem qQ {l:Expr} {tl:TE} (hl:SPE X l tl):SPI X tg l (Af tl):=⟨yS hl.out⟩
theorem j2 (N os:List Str) (fi:List Nat) (esc:Scope) (hc:X.calm=true) (hN:X.N=N) (he:X.env.scope=esc) (B:BlkOk esc scope N fi) (hi:SPI X tg iter wi)
  (hg:∀s H fp,SPG (blk X scope (nB N os fi) s H fp) tg g) (ht:∀s H fp,SPTs (blk X scope (nB N os fi) s H fp) ifs tt) (hel:∀s H fp,SPE (blk X scope (nB N os fi) s H fp) elt te)
  (hs:∀x,foldedSetIterable iter X.env x=pure x:=by intro _; rfl):SPE X (.ListComp elt [⟨tg,iter,ifs,0⟩] scope pos) (tLC os fi wi g tt te):=
 ⟨wG hc hN he B hi.out (fun s H fp=>(hg s H fp).out) (fun s H fp=>(ht s H fp).out) (fun s H fp=>(hel s H fp).out) hs⟩
theorem j3 (N os:List Str) (fi:List Nat) (esc:Scope) {i:Nat} {y:Str} {py:Pos} {spos:Pos} (hc:X.calm=true) (hN:X.N=N) (he:X.env.scope=esc) (B:BlkOk esc scope N fi) (hnd:X.N.Nodup) (hy:X.N[i]? = some y) (hl:Loc X.env.scope y) (hi:SPI X tg iter wi)
  (hg:∀s H fp,SPG (blk X scope (nB N os fi) s H fp) tg g) (ht:∀s H fp,SPTs (blk X scope (nB N os fi) s H fp) ifs tt) (hel:∀s H fp,SPE (blk X scope (nB N os fi) s H fp) elt te)
  (hsw:swapsWith (.ListComp elt [⟨tg,iter,ifs,0⟩] scope pos) (some (.Name y py)) spos.line X.env=pure true:=by rfl)
  (hfn:X.fn y=true∨X.env.scope.names.lookup y=some .local:=by first | exact .inl rfl | exact .inr rfl | assumption)
  (hs:∀x,foldedSetIterable iter X.env x=pure x:=by intro _; rfl):SPS X (.Assign [.Name y py] (.ListComp elt [⟨tg,iter,ifs,0⟩] scope pos) spos) (fun D σ H=>tLC os fi wi g tt te σ H fun v H'=>D.nx (σ.set i (some v)) H'):=
 ⟨wH hc hN he B hnd hy hl hi.out (fun s H fp=>(hg s H fp).out) (fun s H fp=>(ht s H fp).out) (fun s H fp=>(hel s H fp).out) hsw hfn hs⟩
theorem qR (N os:List Str) (fi:List Nat) (esc:Scope) (hc:X.calm=true) (hr:Room k X.A) (hgl:Gl X "all") (hm:X.mg "all" = none) (hcd:X.env.code = .ref c) (CK:CodeK X.K c P) (BM:BmK X) (hN:X.N=N) (he:X.env.scope=esc) (B:BlkOk esc scope N fi) (hco:scope.isCoroutine=false) (h0:scope.names.lookup (".0" : Str)=some NameKind.local) (hi:SPI X tg iter wi)
  (hg:∀code s H fp,SPG (jw X scope (nB N os fi) code s H fp) tg g) (hel:∀code s H fp,SPE (jw X scope (nB N os fi) code s H fp) elt te)
  (hs:∀x,genFold iter X.env x=pure x:=by intro _; rfl):SPE X (.Call (.Name "all" p) [.GeneratorExp elt [⟨tg,iter,[],0⟩] scope gpos] [] pos) (Ae P os fi wi g te):=
 ⟨yR hc hr hgl hm hcd CK BM hN he B hco h0 hi.out (fun code s H fp=>(hg code s H fp).out) (fun code s H fp=>(hel code s H fp).out) hs⟩
end
section
variable {X:Cx} {elt tg iter tg2 iter2:Expr} {ifs ifs2:List Expr} {scope esc:Scope} {pos p:Pos} {N os:List Str} {fi:List Nat} {wi wi2:TI} {g g2:TG} {tt tt2:TT} {te:TE}
theorem sK (N os:List Str) (fi:List Nat) (esc:Scope) (hc:X.calm=true) (hN:X.N=N) (he:X.env.scope=esc) (B:BlkOk esc scope N fi) (hi:SPI X tg iter wi)
  (hg:∀s H fp,SPG (blk X scope (nB N os fi) s H fp) tg g) (ht:∀s H fp,SPTs (blk X scope (nB N os fi) s H fp) ifs tt)
  (hi2:∀s H fp,SPI (blk X scope (nB N os fi) s H fp) tg2 iter2 wi2) (hg2:∀s H fp,SPG (blk X scope (nB N os fi) s H fp) tg2 g2) (ht2:∀s H fp,SPTs (blk X scope (nB N os fi) s H fp) ifs2 tt2)
  (hel:∀s H fp,SPE (blk X scope (nB N os fi) s H fp) elt te)
  (hs:∀x,foldedSetIterable iter X.env x=pure x:=by intro _; rfl) (hs2:∀env x,foldedSetIterable iter2 env x=pure x:=by intro _ _; rfl) :
  SPE X (.ListComp elt [⟨tg,iter,ifs,0⟩,⟨tg2,iter2,ifs2,0⟩] scope pos) (tCG (fun _=>.lst []) os fi wi g tt fun D=>tIn wi2 g2 tt2 (pT D te)):=
 ⟨uz hc hN he B hi.out (fun s H fp=>(hg s H fp).out) (fun s H fp=>(ht s H fp).out) (fun s H fp=>(hi2 s H fp).out) (fun s H fp=>(hg2 s H fp).out) (fun s H fp=>(ht2 s H fp).out) (fun s H fp=>(hel s H fp).out) hs hs2⟩
theorem oH (N os:List Str) (fi:List Nat) (esc:Scope) (hc:X.calm=true) (hN:X.N=N) (he:X.env.scope=esc) (B:BlkOk esc scope N fi) (hi:SPI X tg iter wi)
  (hg:∀s H fp,SPG (blk X scope (nB N os fi) s H fp) tg g) (ht:∀s H fp,SPTs (blk X scope (nB N os fi) s H fp) ifs tt)
  (hel:∀s H fp,SPE (blk X scope (nB N os fi) s H fp) elt te)
  (hs:∀x,foldedSetIterable iter X.env x=pure x:=by intro _; rfl) :
  SPE X (.SetComp elt [⟨tg,iter,ifs,0⟩] scope pos) (tCG (fun a=>gv X.prog X.w a []) os fi wi g tt fun D=>yW X.prog X.w D te):=
 ⟨pU hc hN he B hi.out (fun s H fp=>(hg s H fp).out) (fun s H fp=>(ht s H fp).out) (fun s H fp=>(hel s H fp).out) hs⟩
theorem nh {e:Expr} {te:TE} {k:Nat} {p1 p2 p3 pos:Pos} (he:SPE X e te):SPE X (.Subscript e (.Slice none none (some (.UnaryOp .USub (.Constant (.int 1) k p1) p3)) p2) pos) (Ai X.K te):=⟨yY he.out⟩
theorem pY {o e:Expr} {to:TE} {t:TA} {apos cpos:Pos} (ho:SPE X o to) (ha:SPA X [e] t)
  (hbase:attributeBase o "add" X.env (eval o X.env)=eval o X.env:=by rfl)
  (hfew:((backTo cpos (starEach [e] X.env)).all (fun x=>!x.1) && (backToKw cpos (keywordEach [] X.env)).all (fun x=>x.1.isSome)
   && decide ([e].length + ([]:List Keyword).length + (if ([]:List Keyword).isEmpty then 0 else 1) < 30))=true:=by rfl)
  (hline:(apos.endLine == cpos.line)=true:=by rfl) (hs:starEach [e] X.env=(false,eval e X.env) :: starEach [] X.env:=by rfl) (hplain:(backTo cpos (starEach [] X.env)).any (·.1)=false:=by rfl) :
  SPE X (.Call (.Attribute o "add" apos) [e] [] cpos) (xY X.prog X.w to t):=⟨su ho.out ha.out hbase hfew hline hs hplain⟩
theorem cq {sts:List Stmt}:SPSs X sts tQ:=⟨rL⟩
theorem Ax {e:Expr} {te:TE} {es:List Expr} {t:TA} (ha:PE X e te) (hr:PA X es t) (hs:starEach (e :: es) X.env=(false,eval e X.env) :: starEach es X.env:=by rfl):PA X (e :: es) (dB te t):=bf ha hr hs
theorem gf {e:Expr} {te:TE} {es:List Expr} {t:TA} (ha:SPE X e te) (hr:SPA X es t) (hs:starEach (e :: es) X.env=(false,eval e X.env) :: starEach es X.env:=by rfl):SPA X (e :: es) (dB te t):=⟨Ax ha.out hr.out hs⟩
end
theorem eC {X:Cx} {es:List Expr} {k:Nat} {pos:Pos} {t:TGs} (K:PySem.W.Frag) (n:Nat) (hK:X.K=K) (hc:X.calm=true) (h:SPGs X es t) (hn:(assignEach es X.env).length=n:=by rfl) (hst:(assignEach es X.env).findIdx? (·.1)=none:=by rfl):SPG X (.Tuple es k pos) (yF K n t):=hK ▸ df hc h hn hst
section
variable {X:Cx} {kx vx tg iter:Expr} {ifs:List Expr} {scope esc:Scope} {pos p:Pos} {N os:List Str} {fi:List Nat} {wi:TI} {g:TG} {tt:TT} {tk tv:TE}
theorem nj (N os:List Str) (fi:List Nat) (esc:Scope) (hc:X.calm=true) (hN:X.N=N) (he:X.env.scope=esc) (B:BlkOk esc scope N fi) (hi:SPI X tg iter wi)
  (hg:∀s H fp,SPG (blk X scope (nB N os fi) s H fp) tg g) (ht:∀s H fp,SPTs (blk X scope (nB N os fi) s H fp) ifs tt)
  (hk:∀s H fp,SPE (blk X scope (nB N os fi) s H fp) kx tk) (hv:∀s H fp,SPE (blk X scope (nB N os fi) s H fp) vx tv)
  (hs:∀x,foldedSetIterable iter X.env x=pure x:=by intro _; rfl) :
  SPE X (.DictComp kx vx [⟨tg,iter,ifs,0⟩] scope pos) (tCG (fun _=>.dK []) os fi wi g tt fun D=>zb D tk tv):=
 ⟨oB hc hN he B hi.out (fun s H fp=>(hg s H fp).out) (fun s H fp=>(ht s H fp).out) (fun s H fp=>(hk s H fp).out) (fun s H fp=>(hv s H fp).out) hs⟩
theorem j4 {o i:Expr} {td ty:TE} (hu:X.A.units + 1 < cLine) (ho:SPE X o td) (hi:SPE X i ty) (hs:yZ i):SPE X (.Subscript o i pos) (ya td ty):=⟨wO hu ho.out hi.out hs⟩
end
theorem Room.units1 {k:Nat} {A:Around} (r:Room k A):A.units + 1 < cLine:=by have:=r.un; omega
theorem wZ {x:Str} {g:TG} {tb:TS} {D:Ends} {σ:St} {H:Hp} (Pv:Nat→St→Hp→Prop) (h0:Pv 0 σ H)
  (hs:∀(i c:Nat) (σ:St) (H:Hp),x.cps[i]? = some c→Pv i σ H→g (.str ⟨#[c]⟩) σ H fun σ2 H2=>tb {D with nx:=Pv (i + 1),ct:=Pv (i + 1),bk:=D.nx} σ2 H2) (hd:∀σ H,Pv x.cps.size σ H→D.nx σ H) :
  ∃W:Nat→Nat→St→Hp→Prop,(∃m,W 0 m σ H)∧∀i m σ H,W i m σ H→
   ((Its x).stop i H∧D.nx σ H)∨((Its x).go i H∧∃N:St→Hp→Prop,(∀σ' H',N σ' H'→∃m',m' < m∧W (i + 1) m' σ' H')∧∀y H',(Its x).yld i H y H'→g y σ H' fun σ2 H2=>tb {D with nx:=N,ct:=N,bk:=D.nx} σ2 H2):=by
 refine ⟨fun i m σ H=>m=x.cps.size - i∧i≤x.cps.size∧Pv i σ H,⟨x.cps.size,by simp,Nat.zero_le _,h0⟩,?_⟩;rintro i m σ H ⟨rfl,hi,p⟩
 by_cases hlt:i < x.cps.size
 ·refine .inr ⟨hlt,Pv (i + 1),fun σ' H' p'=>⟨x.cps.size - (i + 1),by omega,rfl,hlt,p'⟩,?_⟩;rintro y H' ⟨rfl,c,hc,rfl⟩;exact hs i c σ H' hc p
 ·have e:i=x.cps.size:=by omega
  subst e;exact .inl ⟨rfl,hd σ H p⟩
section
variable {X:Cx} {elt kx vx tg iter tg2 iter2:Expr} {ifs ifs2:List Expr} {scope esc:Scope} {pos p:Pos} {N os:List Str} {fi:List Nat} {wi wi2:TI} {g g2:TG} {tt tt2:TT} {te tk tv:TE}
theorem cx (N os:List Str) (fi:List Nat) (esc:Scope) (hc:X.calm=true) (hN:X.N=N) (he:X.env.scope=esc) (B:BlkOk esc scope N fi) (hi:SPI X tg iter wi)
  (hg:∀s H fp,SPG (blk X scope (nB N os fi) s H fp) tg g) (ht:∀s H fp,SPTs (blk X scope (nB N os fi) s H fp) ifs tt) (hel:∀s H fp,SPE (blk X scope (nB N os fi) s H fp) elt te)
  (hs:∀x,foldedSetIterable iter X.env x=pure x:=by intro _; rfl):SPE X (.ListComp elt [⟨tg,iter,ifs,0⟩] scope pos) (tCG (fun _=>.lst []) os fi wi g tt fun D=>pT D te):=
 ⟨uH hc hN he B hi.out (fun s H fp=>(hg s H fp).out) (fun s H fp=>(ht s H fp).out) (fun s H fp=>(hel s H fp).out) hs⟩
theorem h8 (N os:List Str) (fi:List Nat) (esc:Scope) {i:Nat} {y:Str} {py spos:Pos} (hc:X.calm=true) (hN:X.N=N) (he:X.env.scope=esc) (B:BlkOk esc scope N fi) (hnd:X.N.Nodup) (hy:X.N[i]? = some y) (hl:Loc X.env.scope y) (hi:SPI X tg iter wi)
  (hg:∀s H fp,SPG (blk X scope (nB N os fi) s H fp) tg g) (ht:∀s H fp,SPTs (blk X scope (nB N os fi) s H fp) ifs tt) (hel:∀s H fp,SPE (blk X scope (nB N os fi) s H fp) elt te)
  (hsw:swapsWith (.ListComp elt [⟨tg,iter,ifs,0⟩] scope pos) (some (.Name y py)) spos.line X.env=pure true:=by rfl)
  (hfn:X.fn y=true∨X.env.scope.names.lookup y=some .local:=by first | exact .inl rfl | exact .inr rfl | assumption)
  (hs:∀x,foldedSetIterable iter X.env x=pure x:=by intro _; rfl):SPS X (.Assign [.Name y py] (.ListComp elt [⟨tg,iter,ifs,0⟩] scope pos) spos) (fun D σ H=>tCG (fun _=>.lst []) os fi wi g tt (fun D=>pT D te) σ H fun v H'=>D.nx (σ.set i (some v)) H'):=
 ⟨uI hc hN he B hnd hy hl hi.out (fun s H fp=>(hg s H fp).out) (fun s H fp=>(ht s H fp).out) (fun s H fp=>(hel s H fp).out) hsw hfn hs⟩
end
section
variable {P:Program} {w:World} {K:PySem.W.Frag} {mg:Str→Option Value} {base:Heap} {x qual:Str} {st:Stmt} {dV:Value} {f:Addr} {fd:FuncData} {N ps:List Str} {k:Nat} {sp:Sp}
theorem FunG.zokE (F:FunG K x qual st dV f fd) (S:FnScope N ps (af st)) (len:∀vs H Q E,sp vs H Q E→vs.length=ps.length)
  (hbody:∀(cdv:Value) (A:Around) (outer:List Env) (s:Shared) (H:Hp) (vs:List V) (Q:VK) (E:XK),Room k (A.deeper (envOfC qual (af st) s.heap.objs.size f cdv))→sp vs H Q E→
   ∃t,SPSs (eV (CXE P w) P w K mg base N qual (af st) f cdv A outer s H E) (aC st) t∧t {nx:=fun _ H'=>Q .non H',rt:=Q} (start N vs) H):FnOk P w K mg base (CXE P w) (k + 1) f fd ps sp:=
 F.okE S len fun cdv A outer s H vs Q E hr hsp=>by
  obtain ⟨t,h,q⟩:=hbody cdv A outer s H vs Q E hr hsp;exact ⟨t,h.out,q⟩
theorem FunG.zokN (F:FunG K x qual st dV f fd) (S:FnScope N ps (af st)) (len:∀vs H Q E,sp vs H Q E→vs.length=ps.length)
  (hbody:∀(cdv:Value) (A:Around) (outer:List Env) (s:Shared) (H:Hp) (vs:List V) (Q:VK) (E:XK),Room k (A.deeper (envOfC qual (af st) s.heap.objs.size f cdv))→sp vs H Q E→
   ∃t,SPSs (eV (CXE P w) P w K mg base N qual (af st) f cdv A outer s H E).nox (aC st) t∧t {nx:=fun _ H'=>Q .non H',rt:=Q} (start N vs) H):FnOk P w K mg base (CXE P w) (k + 1) f fd ps sp:=
 F.okN S len fun cdv A outer s H vs Q E hr hsp=>by
  obtain ⟨t,h,q⟩:=hbody cdv A outer s H vs Q E hr hsp;exact ⟨t,h.out,q⟩
end
section
variable {P:Program} {w:World} {K:PySem.W.Frag} {mg:Str→Option Value} {base:Heap} {x qual:Str} {st:Stmt} {dV kV doc pm ct oc:Value} {an od:Option Addr} {osl:Array (Option Value)} {f c:Addr} {N ps:List Str} {k:Nat} {sp:Sp}
theorem okC (lk:K.lookup f=some ⟨oc,od,.func (PySem.W.fnOf x qual (aD st) (aC st) (af st) dV kV doc pm an (.ref c) ct),osl⟩) (hcd:PySem.W.codeIn K (.ref c) qual=true) (S:FnScope N ps (af st)) (len:∀vs H Q E,sp vs H Q E→vs.length=ps.length)
  (hbody:∀(A:Around) (outer:List Env) (s:Shared) (H:Hp) (vs:List V) (Q:VK) (E:XK),Room k (A.deeper (envOfC qual (af st) s.heap.objs.size f (.ref c)))→sp vs H Q E→
   ∃t,SPSs (eV (CXE P w) P w K mg base N qual (af st) f (.ref c) A outer s H E).nox (aC st) t∧t {nx:=fun _ H'=>Q .non H',rt:=Q} (start N vs) H) :
  FnOk P w K mg base (CXE P w) (k + 1) f (PySem.W.fnOf x qual (aD st) (aC st) (af st) dV kV doc pm an (.ref c) ct) ps sp:=
 xU lk hcd S len fun A outer s H vs Q E hr h=>by
  obtain ⟨t,h1,h2⟩:=hbody A outer s H vs Q E hr h;exact ⟨t,h1.out.nox,h2⟩
end
theorem boot_str:bootBuiltins "str" = some (.type "str"):=by decide +kernel
end L2
namespace G1
open PySem L2 GM
def letters:Str:="abcdefghijklmnopqrstuvwxyz"
def occ (c:Nat):Bool:=!(Builtin.Str.occurrences letters ⟨#[c]⟩ 0 letters.length 1).isEmpty
def gG:V→Bool
 | .str z=>decide (z≠"") && (decide (z.length≤8) && z.cps.toList.all occ)
 | _=>false
def isS:V→Bool
 | .str _=>true
 | _=>false
section
variable {P:Program} {w:World} {K:PySem.W.Frag} {mg:Str→Option Value} {base:Heap}
theorem ks1:PySem.W.kitOne K (.type "int") (.type "str")=some false:=by kernel_rfl
theorem ks2:PySem.W.kitOne K (.type "bool") (.type "str")=some false:=by kernel_rfl
theorem ks3:PySem.W.kitOne K (.type "NoneType") (.type "str")=some false:=by kernel_rfl
theorem ks4:PySem.W.kitOne K (.type "str") (.type "str")=some true:=by kernel_rfl
theorem ks5:PySem.W.kitOne K (.type "list") (.type "str")=some false:=by kernel_rfl
theorem ks6:PySem.W.kitOne K (.type "tuple") (.type "str")=some false:=by kernel_rfl
theorem ks7:PySem.W.kitOne K (.type "dict") (.type "str")=some false:=by kernel_rfl
theorem _root_.L2.Th.tyS {H:Hp} {x:V} (h:Th H x):∃t,TyX K H x t∧PySem.W.kitOne K t (.type "str")=some (isS x):=by
 cases h with
 | non=>exact ⟨_,.of .non,ks3⟩
 | bl b=>exact ⟨_,.of (.bl b),ks2⟩
 | int i=>exact ⟨_,.of (.int i),ks1⟩
 | str x=>exact ⟨_,.of (.str x),ks4⟩
 | lst h=>exact ⟨_,.of (.lst h),ks5⟩
 | tup h=>exact ⟨_,.of (.tup h),ks6⟩
 | dK h=>exact ⟨_,.of (.dK h),ks7⟩
def uR (T:Addr):Sp:=fun vs H Q _=>∃x ps,vs=[x]∧Th H x∧(∀z,x = .str z→z.length≤sizeLine)∧H T=some (.tbl ps)∧TriplesOk ps.toList∧∀ps',TriplesOk ps'.toList→Q (.bl (gG x)) (upd H T (.tbl ps'))
theorem scN:FnScope ["thing"] ["thing"] (af gk):=⟨rfl,rfl,rfl,by decide +kernel,rfl,by decide +kernel,by decide +kernel⟩
theorem w6 {f c T:Addr} {kV doc pm ct oc:Value} {an od:Option Addr} {osl:Array (Option Value)} {t1 t2:Tok}
  (lk:K.lookup f=some ⟨oc,od,.func (PySem.W.fnOf "is_name" "is_name" (aD gk) (aC gk) (af gk) .none kV doc pm an (.ref c) ct),osl⟩) (hcd:PySem.W.codeIn K (.ref c) "is_name" = true)
  (B:Bl mg) (CK:CodeK K c T) (hbm:kr mg base) (mL:mg "LETTERS" = some (.str letters t1)) (mM:mg "LONGEST_NAME" = some (.int 8 t2)) :
  FnOk P w K mg base (CXE P w) 2 f (PySem.W.fnOf "is_name" "is_name" (aD gk) (aC gk) (af gk) .none kV doc pm an (.ref c) ct) ["thing"] (uR T):=by
 refine okC lk hcd scN (fun vs H Q E h=>?_) (fun A outer s H vs Q E hr h=>?_)
 ·obtain ⟨x,ps,rfl,_⟩:=h;rfl
 ·obtain ⟨x,ps,rfl,hx,len,hT,tr,q⟩:=h;refine ⟨_,ae (aH (be (aR (aI (au aV (by rfl) B.isi aW (ac (zpv 0) (ac (ba (by rfl) B.str boot_str (v:=.ty "str") rfl) aa)))))
    (be (aA cz (zpv 0) cj (aG _)) (bh (aA ii (au cD (by rfl) B.len PySem.boot_len (ac (zpv 0) aa)) (bq (by rfl) mM (v:=.int 8) ⟨_,rfl⟩) (aG _))))).pt (ah (ay bQ)) az)
   (ah (ay (qR ["thing"] ["sign"] [] (af gk) rfl hr (by rfl) B.all rfl CK ⟨hbm⟩ rfl rfl ⟨by decide +kernel,by decide +kernel,by decide +kernel,by decide +kernel,by decide +kernel⟩ (by decide +kernel) (by decide +kernel) (qQ (zpv 0))
    (fun code s H fp=>aq (i:=0) (show List.Nodup [("sign" : Str)] by decide +kernel) rfl (Or.inl rfl)) (fun code s H fp=>bx rQ (zpv 0) (bq (by rfl) mL (v:=.str letters) ⟨_,rfl⟩) rfl)))),?_⟩
  obtain ⟨t,ty,e1⟩:=hx.tyS (K:=K);refine ⟨_,rfl,_,_,t,isS x,rfl,ty,.inl ⟨_,rfl,e1⟩,_,rfl,?_⟩;have self:∀{b:Bool},gG x=b→Q (.bl b) H:=fun {b} e=>by
   have:=q ps tr;rw [oo hT,e] at this;exact this
  cases x with
  | str z=>
   refine aU ⟨_,rfl,rfl,_,rfl,?_⟩;refine bE (fun e=>?_) (fun e=>?_)
   ·have e':V.str z=V.str "":=of_decide_eq_true e;injection e' with e';refine bc (self ?_);simp [gG,e']
   ·have ne:z≠"":=fun y=>e (decide_eq_true (by rw [y]));refine ⟨_,rfl,z,rfl,len z rfl,_,_,rfl,rfl,_,rfl,?_⟩;refine bE (fun e8=>?_) (fun e8=>?_)
    ·have g8:(8:Int) < (z.length:Int):=of_decide_eq_true e8;refine self ?_;have:decide (z.length≤8)=false:=decide_eq_false (by omega);simp [gG,this]
    ·have l8:z.length≤8:=by
      have:¬(8:Int) < (z.length:Int):=fun y=>e8 (decide_eq_true y);omega
     refine ⟨_,rfl,z,rfl,ps,hT,tr,fun ps' tr'=>?_⟩;refine ⟨fun i m σ2 H2=>H2=upd H T (.tbl ps')∧i≤z.cps.size∧m=z.cps.size - i∧(∃v,σ2=[v])∧(∀j c,j < i→z.cps[j]? = some c→occ c=true),⟨_,rfl,Nat.zero_le _,rfl,⟨_,rfl⟩,fun j c hj=>absurd hj (Nat.not_lt_zero _)⟩,?_⟩;rintro i m σ2 H2 ⟨rfl,hi,rfl,⟨v,rfl⟩,ok⟩
     by_cases hlt:i < z.cps.size
     ·refine .inr ⟨hlt,?_⟩;rintro y H3 ⟨rfl,c,hc,rfl⟩;refine ⟨_,rfl,⟨#[c]⟩,letters,rfl,rfl,_,rfl,?_⟩;cases ho:occ c with
      | true=>
       rw [if_pos (show (!(Builtin.Str.occurrences letters ⟨#[c]⟩ 0 letters.length 1).isEmpty)=true from ho)];refine ⟨z.cps.size - (i + 1),by omega,rfl,hlt,rfl,⟨_,rfl⟩,fun j d hj hd=>?_⟩;rcases Nat.lt_or_ge j i with h | h
       ·exact ok j d h hd
       ·have e:j=i:=by omega
        subst e;rw [hc] at hd; cases hd;exact ho
      | false=>
       rw [if_neg (by rw [show (!(Builtin.Str.occurrences letters ⟨#[c]⟩ 0 letters.length 1).isEmpty)=false from ho]; decide)];have e:gG (.str z)=false:=by
        have a:z.cps.toList.all occ=false:=by
         rw [List.all_eq_false];exact ⟨c,by
          have:z.cps.toList[i]? = some c:=by simpa using hc
          exact List.mem_of_getElem? this,by rw [ho]; decide⟩
        simp [gG,a]
       rw [← e,← show (!(Builtin.Str.occurrences letters ⟨#[c]⟩ 0 letters.length 1).isEmpty)=gG (.str z) from by rw [e]; exact ho];have:=q ps' tr';rw [e] at this;rw [show (!(Builtin.Str.occurrences letters ⟨#[c]⟩ 0 letters.length 1).isEmpty)=false from ho];exact this
     ·have e:i=z.cps.size:=by omega
      subst e;refine .inl ⟨rfl,?_⟩;have a:z.cps.toList.all occ=true:=by
       rw [List.all_eq_true];intro c hc;obtain ⟨j,hj⟩:=List.getElem?_of_mem hc;have hj':z.cps[j]? = some c:=by simpa using hj
       exact ok j c (Array.getElem?_eq_some_iff.mp hj').1 hj'
      have n1:gG (.str z)=true:=by
       simp [gG,ne,l8]
       simpa using a
      have:=q ps' tr';rw [n1] at this;exact this
  | _=>exact bc (self rfl)
end
def FrP (H:Hp) (x:V):Prop:=∃a n d,x = .ref a∧H a=some (.tup [.int n,.int d])∧0 < d∧Nat.gcd n.natAbs d.natAbs=1
noncomputable def frB (H:Hp) (x:V):Bool:=@decide (FrP H x) (Classical.propDecidable _)
theorem ye {H:Hp} {x:V} (h:FrP H x):frB H x=true:=by unfold frB; exact @decide_eq_true _ (Classical.propDecidable _) h
theorem lU {H:Hp} {x:V} (h:¬FrP H x):frB H x=false:=by unfold frB; exact @decide_eq_false _ (Classical.propDecidable _) h
structure ThD (H:Hp) (x:V):Prop where
 th:Th H x
 parts:∀a xs,x = .ref a→H a=some (.tup xs)→∀y∈xs,Th H y
 few:∀a n d,x = .ref a→H a=some (.tup [.int n,.int d])→d.natAbs < big
 str:∀z,x = .str z→z.length≤sizeLine
section
variable {P:Program} {w:World} {K:PySem.W.Frag} {mg:Str→Option Value} {base:Heap}
theorem kq1:PySem.W.kitOne K (.type "int") (.type "tuple")=some false:=by kernel_rfl
theorem kq2:PySem.W.kitOne K (.type "bool") (.type "tuple")=some false:=by kernel_rfl
theorem kq3:PySem.W.kitOne K (.type "NoneType") (.type "tuple")=some false:=by kernel_rfl
theorem kq4:PySem.W.kitOne K (.type "str") (.type "tuple")=some false:=by kernel_rfl
theorem kq5:PySem.W.kitOne K (.type "list") (.type "tuple")=some false:=by kernel_rfl
theorem kq7:PySem.W.kitOne K (.type "dict") (.type "tuple")=some false:=by kernel_rfl
theorem _root_.L2.Th.tyT {H:Hp} {x:V} (h:Th H x):∃t b,TyX K H x t∧PySem.W.kitOne K t (.type "tuple")=some b∧((b=true∧∃a xs,x = .ref a∧H a=some (.tup xs))∨(b=false∧∀a xs,x = .ref a→H a≠some (.tup xs))):=by
 cases h with
 | non=>exact ⟨_,_,.of .non,kq3,.inr ⟨rfl,nofun⟩⟩
 | bl b=>exact ⟨_,_,.of (.bl b),kq2,.inr ⟨rfl,nofun⟩⟩
 | int i=>exact ⟨_,_,.of (.int i),kq1,.inr ⟨rfl,nofun⟩⟩
 | str x=>exact ⟨_,_,.of (.str x),kq4,.inr ⟨rfl,nofun⟩⟩
 | lst h=>exact ⟨_,_,.of (.lst h),kq5,.inr ⟨rfl,fun a xs e z=>by cases e; rw [h] at z; cases z⟩⟩
 | tup h=>exact ⟨_,_,.of (.tup h),kt1,.inl ⟨rfl,_,_,rfl,h⟩⟩
 | dK h=>exact ⟨_,_,.of (.dK h),kq7,.inr ⟨rfl,fun a xs e z=>by cases e; rw [h] at z; cases z⟩⟩
def yf:Sp:=fun vs H Q _=>∃x,vs=[x]∧ThD H x∧Q (.bl (frB H x)) H
theorem scIF:FnScope ["thing","top","bottom"] ["thing"] (af sC):=⟨rfl,rfl,rfl,by decide +kernel,rfl,by decide +kernel,by decide +kernel⟩
theorem zq {xs:List V} (h:xs.length=2):∃y z,xs=[y,z]:=by
 match xs,h with
 | [y,z],_=>exact ⟨y,z,rfl⟩
theorem zr {f fW fG:Addr} {fd fdW fdG:FuncData} (F:FunG K "is_fraction" "is_fraction" sC .none f fd) (B:Bl mg)
  (GW:FnOk P w K mg base (CXE P w) 1 fW fdW ["thing"] iO) (mW:mg "is_whole" = some (.ref fW)) (kW:PySem.W.keepIn K (.ref fW)=true) (bW:Binds K fdW ["thing"] [])
  (GG:FnOk P w K mg base (CXE P w) 1 fG fdG ["one","other"] yc) (mG:mg "common_divisor" = some (.ref fG)) (kG:PySem.W.keepIn K (.ref fG)=true) (bG:Binds K fdG ["one","other"] []) :
  FnOk P w K mg base (CXE P w) 2 f fd ["thing"] yf:=by
 refine F.zokN scIF (fun vs H Q E h=>?_) (fun cdv A outer s H vs Q E hr h=>?_)
 ·obtain ⟨x,rfl,_⟩:=h;rfl
 ·obtain ⟨x,rfl,hx,q⟩:=h;refine ⟨_,ae (aH (be (aR (aI (au aV (by rfl) B.isi aW (ac (zpv 0) (ac (ba (by rfl) B.tuple boot_tuple (v:=.ty "tuple") rfl) aa)))))
    (bh (aA kQ (au aN (by rfl) B.len PySem.boot_len (ac (zpv 0) aa)) ag (aG _)))).pt (ah (ay bQ)) az)
   (ae (eL (zpv 0) (df rfl (aE (aq (i:=1) scIF.nd rfl (Or.inl rfl)) (aE (aq (i:=2) scIF.nd rfl (Or.inl rfl)) bw))))
   (ae (aH (be (aR (aI (aj GW hr (by rfl) mW kW bW .nil aw (ac (zpv 1) aa)))) (be (aR (aI (aj GW hr (by rfl) mW kW bW .nil aw (ac (zpv 2) aa))))
    (bh (aA lf (zpv 2) ag (aG _))))).pt (ah (ay bQ)) az)
   (ah (ay (bx cz (aj GG hr (by rfl) mG kG bG .nil aw (ac (zpv 1) (ac (zpv 2) aa))) ag (aG _)))))),?_⟩
  obtain ⟨t,b,ty,e1,hb⟩:=hx.th.tyT (K:=K);refine ⟨_,rfl,_,_,t,b,rfl,ty,.inl ⟨_,rfl,e1⟩,_,rfl,?_⟩;rcases hb with ⟨rfl,a,xs,rfl,ha⟩ | ⟨rfl,no⟩
  ·refine aU ⟨_,rfl,a,xs,rfl,.inr (SqT.of ha),rfl,_,rfl,?_⟩;refine bE (fun e=>?_) (fun e=>?_)
   ·rw [lU (by
     rintro ⟨a',n,d,e',h',_⟩;cases e';rw [ha] at h'; cases h';simp at e)] at q
    exact q
   ·have l2:xs.length=2:=by
     by_cases z:xs.length=2
     ·exact z
     ·exfalso
      apply e;simp;omega
    obtain ⟨y,z,rfl⟩:=zq l2;have ty:=hx.parts a _ rfl ha y (by simp);have tz:=hx.parts a _ rfl ha z (by simp);refine ⟨_,rfl,a,_,rfl,SqT.of ha,rfl,_,_,rfl,_,_,rfl,rfl,?_⟩;refine ⟨_,rfl,y,rfl,ty,_,rfl,?_⟩;cases hy:isW y with
    | false=>
     refine bc (bc ?_);rw [lU (by
      rintro ⟨a',n,d,e',h',_⟩;cases e';rw [ha] at h'; cases h';cases hy)] at q
     exact q
    | true=>
     refine aU ⟨_,rfl,z,rfl,tz,_,rfl,?_⟩;cases hz:isW z with
     | false=>
      refine bc (bc ?_);rw [lU (by
       rintro ⟨a',n,d,e',h',_⟩;cases e';rw [ha] at h'; cases h';cases hz)] at q
      exact q
     | true=>
      obtain ⟨n,rfl⟩:∃n,y = .int n:=by cases y <;> first | exact ⟨_,rfl⟩ | cases hy
      obtain ⟨d,rfl⟩:∃d,z = .int d:=by cases z <;> first | exact ⟨_,rfl⟩ | cases hz
      refine aU ⟨_,rfl,_,_,rfl,rfl,_,rfl,?_⟩;refine bE (fun e1=>?_) (fun e1=>?_)
      ·have d1:d < 1:=of_decide_eq_true e1;rw [lU (by
        rintro ⟨a',n',d',e',h',p,_⟩;cases e';rw [ha] at h'; cases h';omega)] at q
       exact q
      ·have d1:¬d < 1:=fun z=>e1 (decide_eq_true z);refine ⟨_,rfl,_,rfl,n,d,rfl,rfl,?_⟩
       by_cases g1:Nat.gcd n.natAbs d.natAbs=1
       ·rw [ye ⟨a,n,d,rfl,ha,by omega,g1⟩] at q;rw [show decide (V.int (gd n d)=V.int 1)=true from decide_eq_true (by unfold gd; rw [g1]; rfl)];exact q
       ·rw [lU (by
         rintro ⟨a',n',d',e',h',p,g⟩;cases e';rw [ha] at h'; cases h';exact g1 g)] at q
        rw [show decide (V.int (gd n d)=V.int 1)=false from decide_eq_false (by
         unfold gd;intro z;injection z with z;omega)]
        exact q
  ·refine bc (bc ?_);rw [lU (by
    rintro ⟨a,n,d,e,h,_⟩;exact no a _ e h)] at q
   exact q
end
def Kp (H H':Hp):Prop:=∀b o,H b=some o→(∀ps,o≠.tbl ps)→H' b=some o
theorem Kp.refl {H:Hp}:Kp H H:=fun _ _ h _=>h
theorem Kp.trans {H H1 H2:Hp} (a:Kp H H1) (b:Kp H1 H2):Kp H H2:=fun c o h n=>b c o (a c o h n) n
theorem Kp.same {H H':Hp} (s:Same H H'):Kp H H':=fun b o h _=>s b o h
theorem Kp.new {H:Hp} {p:Addr} {o:HO} (h:H p=none):Kp H (upd H p o):=Kp.same (aF h)
theorem Kp.lst {H H':Hp} {a:Addr} {xs:List V} (k:Kp H H') (h:H a=some (.lst xs)):H' a=some (.lst xs):=k a _ h nofun
theorem Kp.tup {H H':Hp} {a:Addr} {xs:List V} (k:Kp H H') (h:H a=some (.tup xs)):H' a=some (.tup xs):=k a _ h nofun
def Tab (T:Addr) (H:Hp):Prop:=∃ps,H T=some (.tbl ps)∧TriplesOk ps.toList
theorem Kp.tab {H:Hp} {T:Addr} {ps':Array Value} (h:Tab T H):Kp H (upd H T (.tbl ps')):=fun b o e n=>by
 obtain ⟨ps,hp,_⟩:=h;rw [am (fun z=>by rw [z,hp] at e; cases e; exact n _ rfl)]; exact e
theorem Tab.new {H:Hp} {T p:Addr} {o:HO} (h:Tab T H) (n:H p=none):Tab T (upd H p o):=by
 obtain ⟨ps,hp,t⟩:=h;exact ⟨ps,by rw [am (ak hp n)]; exact hp,t⟩
theorem Tab.put {H:Hp} {T T':Addr} {ps':Array Value} (h:Tab T H) (t:TriplesOk ps'.toList):Tab T (upd H T' (.tbl ps')):=by
 obtain ⟨ps,hp,t0⟩:=h
 by_cases e:T=T'
 ·subst e; exact ⟨ps',ai,t⟩
 ·exact ⟨ps,by rw [am e]; exact hp,t0⟩
theorem Tab.set {H:Hp} {T p:Addr} {o o':HO} (h:Tab T H) (n:H p=some o') (no:∀ps,o'≠.tbl ps):Tab T (upd H p o):=by
 obtain ⟨ps,hp,t⟩:=h;exact ⟨ps,by rw [am (fun z=>by rw [z,n] at hp; cases hp; exact no _ rfl)]; exact hp,t⟩
theorem Tab.same {H H':Hp} {T:Addr} (h:Tab T H) (s:Same H H'):Tab T H':=by
 obtain ⟨ps,hp,t⟩:=h;exact ⟨ps,s _ _ hp,t⟩
structure PrA (H:Hp) (x:V):Prop where
 ex:∃a n d,x = .ref a∧H a=some (.tup [.int n,.int d])∧0 < n∧0 < d∧Nat.gcd n.natAbs d.natAbs=1∧n≤1000000000∧d≤1000000000
theorem PrA.kp {H H':Hp} {x:V} (h:PrA H x) (k:Kp H H'):PrA H' x:=by
 obtain ⟨a,n,d,e,ha,r⟩:=h.ex;exact ⟨a,n,d,e,k.tup ha,r⟩
theorem PrA.ext {H H':Hp} {p:Addr} {x:V} (h:PrA H x) (hp:∃xs,H p=some (.lst xs)) (k:Ext p H H'):PrA H' x:=by
 obtain ⟨a,n,d,e,ha,r⟩:=h.ex;obtain ⟨xs,hp⟩:=hp;exact ⟨a,n,d,e,k _ _ (fun z=>by rw [z,hp] at ha; cases ha) ha,r⟩
theorem aT {d:Int} (h0:0 < d) (h:d≤1000000000):d.natAbs < big:=Nat.lt_of_le_of_lt (show d.natAbs≤1000000000 by omega) (by decide +kernel)
theorem PrA.thd {H:Hp} {x:V} (h:PrA H x):ThD H x:=by
 obtain ⟨a,n,d,rfl,ha,n0,d0,g,n1,d1⟩:=h.ex;refine ⟨.tup ha,fun b xs e hb y hy=>?_,fun b n' d' e hb=>?_,nofun⟩
 ·cases e;rw [ha] at hb; cases hb;rcases List.mem_cons.mp hy with rfl | hy
  ·exact .int _
  ·rw [List.mem_singleton.mp hy]; exact .int _
 ·cases e;rw [ha] at hb; cases hb;exact aT d0 d1
theorem PrA.fr {H:Hp} {x:V} (h:PrA H x):frB H x=true:=by
 obtain ⟨a,n,d,rfl,ha,n0,d0,g,_⟩:=h.ex;exact ye ⟨a,n,d,rfl,ha,d0,g⟩
section
variable {P:Program} {w:World} {K:PySem.W.Frag} {mg:Str→Option Value} {base:Heap}
def inB:V→Int→Int→Bool
 | .int i,lo,hi=>decide (lo≤i) && decide (i≤hi)
 | _,_,_=>false
def j5:Sp:=fun vs H Q _=>∃(x:V) (lo hi:Int),vs=[x,.int lo,.int hi]∧Th H x∧Q (.bl (inB x lo hi)) H
theorem AZ:FnScope ["thing","least","most"] ["thing","least","most"] (af gW):=⟨rfl,rfl,rfl,by decide +kernel,rfl,by decide +kernel,by decide +kernel⟩
theorem sL {f fW:Addr} {fd fdW:FuncData} (F:FunG K "is_whole_within" "is_whole_within" gW .none f fd)
  (GW:FnOk P w K mg base (CXE P w) 1 fW fdW ["thing"] iO) (mW:mg "is_whole" = some (.ref fW)) (kW:PySem.W.keepIn K (.ref fW)=true) (bW:Binds K fdW ["thing"] []) :
  FnOk P w K mg base (CXE P w) 2 f fd ["thing","least","most"] j5:=by
 refine F.zokN AZ (fun vs H Q E h=>?_) (fun cdv A outer s H vs Q E hr h=>?_)
 ·obtain ⟨x,lo,hi,rfl,_⟩:=h;rfl
 ·obtain ⟨x,lo,hi,rfl,hx,q⟩:=h;refine ⟨_,ah (ay (hZ (aj GW hr (by rfl) mW kW bW .nil aw (ac (zpv 0) aa)) (hZ (bx qz (zpv 1) (zpv 0) (aG _)) (iQ (bx qz (zpv 0) (zpv 2) (aG _)))))),?_⟩;refine ⟨_,rfl,x,rfl,hx,_,rfl,?_⟩;cases x with
  | int i=>
   refine bc ⟨_,rfl,_,rfl,_,_,rfl,rfl,_,rfl,?_⟩;refine bE (fun e=>?_) (fun e=>?_)
   ·refine ⟨_,rfl,_,rfl,_,_,rfl,rfl,?_⟩;have:inB (.int i) lo hi=decide (i≤hi):=by simp [inB,of_decide_eq_true e]
    rw [this] at q;exact q
   ·have:inB (.int i) lo hi=false:=by
     have:decide (lo≤i)=false:=by simpa using e
     simp [inB,this]
    rw [this] at q;exact q
  | _=>exact aU q
def qS:Sp:=fun vs H Q _=>∃x,vs=[x]∧PrA H x∧Q (.bl true) H
theorem Ba:FnScope ["thing"] ["thing"] (af jh):=⟨rfl,rfl,rfl,by decide +kernel,rfl,by decide +kernel,by decide +kernel⟩
theorem uS {f fF:Addr} {fd fdF:FuncData} (F:FunG K "is_above_nought" "is_above_nought" jh .none f fd)
  (GF:FnOk P w K mg base (CXE P w) 2 fF fdF ["thing"] yf) (mF:mg "is_fraction" = some (.ref fF)) (kF:PySem.W.keepIn K (.ref fF)=true) (bF:Binds K fdF ["thing"] []) :
  FnOk P w K mg base (CXE P w) 3 f fd ["thing"] qS:=by
 refine F.zokN Ba (fun vs H Q E h=>?_) (fun cdv A outer s H vs Q E hr h=>?_)
 ·obtain ⟨x,rfl,_⟩:=h;rfl
 ·obtain ⟨x,rfl,hx,q⟩:=h;refine ⟨_,ah (ay (hZ (aj GF hr (by rfl) mF kF bF .nil aw (ac (zpv 0) aa)) (iQ (bx ii (aJ bj (zpv 0) ag (fun _ _=>rfl)) ag (aG _))))),?_⟩;refine ⟨_,rfl,x,rfl,hx.thd,_,rfl,?_⟩;rw [hx.fr];obtain ⟨a,n,d,rfl,ha,n0,d0,g,n1,d1⟩:=hx.ex;refine bc ⟨_,rfl,a,_,_,_,rfl,rfl,SqT.of ha,rfl,_,_,rfl,rfl,?_⟩;have:decide ((0:Int) < n)=true:=decide_eq_true (by omega);show Q (V.bl (decide ((0:Int) < n))) H;rw [this];exact q
def sg1 (c:Nat):Str:=⟨#[c]⟩
structure Row (H:Hp) (x:V) (c:Nat):Prop where
 ex:∃a p l,x = .ref a∧H a=some (.tup [.str (sg1 c),p,l])∧PrA H p∧(l = .non∨PrA H l)
 oc:occ c=true
theorem Row.kp {H H':Hp} {x:V} {c:Nat} (h:Row H x c) (k:Kp H H'):Row H' x c:=by
 obtain ⟨a,p,l,e,ha,hp,hl⟩:=h.ex;exact ⟨⟨a,p,l,e,k.tup ha,hp.kp k,hl.imp id fun z=>z.kp k⟩,h.oc⟩
theorem Ay {c:Nat} (h:occ c=true):gG (.str (sg1 c))=true:=by
 have:sg1 c≠"":=fun z=>by
  have:(sg1 c).length=("" : Str).length:=by rw [z]
  exact absurd this (by show (1:Nat)≠0; decide)
 have l:(sg1 c).length≤8:=by show (1:Nat)≤8; decide
 have a:(sg1 c).cps.toList.all occ=true:=by
  show [c].all occ=true;simp [h]
 simp only [gG,decide_eq_true this,decide_eq_true l,a,Bool.and_self]
def oI (T:Addr):Sp:=fun vs H Q _=>∃c,vs=[.str (sg1 c)]∧occ c=true∧Tab T H∧∀ps',TriplesOk ps'.toList→Q (.bl true) (upd H T (.tbl ps'))
theorem Bb:FnScope ["thing"] ["thing"] (af gX):=⟨rfl,rfl,rfl,by decide +kernel,rfl,by decide +kernel,by decide +kernel⟩
theorem sN {T f fN:Addr} {fd fdN:FuncData} (F:FunG K "is_letter" "is_letter" gX .none f fd) (B:Bl mg)
  (GN:FnOk P w K mg base (CXE P w) 2 fN fdN ["thing"] (uR T)) (mN:mg "is_name" = some (.ref fN)) (kN:PySem.W.keepIn K (.ref fN)=true) (bN:Binds K fdN ["thing"] []) :
  FnOk P w K mg base (CXE P w) 3 f fd ["thing"] (oI T):=by
 refine F.zokN Bb (fun vs H Q E h=>?_) (fun cdv A outer s H vs Q E hr h=>?_)
 ·obtain ⟨c,rfl,_⟩:=h;rfl
 ·obtain ⟨c,rfl,hc,ht,q⟩:=h;refine ⟨_,ah (ay (hZ (aj GN hr (by rfl) mN kN bN .nil aw (ac (zpv 0) aa)) (iQ (bx cz (au cD (by rfl) B.len PySem.boot_len (ac (zpv 0) aa)) ag (aG _))))),?_⟩;obtain ⟨ps,hT,tr⟩:=id ht;have gj:(sg1 c).length=1:=rfl;refine ⟨_,rfl,_,ps,rfl,.str _,fun z e=>by injection e with e; rw [← e,gj]; decide,hT,tr,fun ps' tr'=>⟨_,rfl,?_⟩⟩;rw [Ay hc];refine bc ⟨_,rfl,sg1 c,rfl,by rw [gj]; decide,rfl,?_⟩;exact q ps' tr'
def yg (T:Addr):Sp:=fun vs H Q _=>∃x c,vs=[x]∧Row H x c∧Tab T H∧∀ps',TriplesOk ps'.toList→Q (.bl true) (upd H T (.tbl ps'))
theorem scRo:FnScope ["thing","sign","price","last"] ["thing"] (af sE):=⟨rfl,rfl,rfl,by decide +kernel,rfl,by decide +kernel,by decide +kernel⟩
theorem zt {T f fL fA:Addr} {fd fdL fdA:FuncData} (F:FunG K "is_sign_row" "is_sign_row" sE .none f fd) (B:Bl mg)
  (GL:FnOk P w K mg base (CXE P w) 3 fL fdL ["thing"] (oI T)) (mL:mg "is_letter" = some (.ref fL)) (kL:PySem.W.keepIn K (.ref fL)=true) (bL:Binds K fdL ["thing"] [])
  (GA:FnOk P w K mg base (CXE P w) 3 fA fdA ["thing"] qS) (mA:mg "is_above_nought" = some (.ref fA)) (kA:PySem.W.keepIn K (.ref fA)=true) (bA:Binds K fdA ["thing"] []) :
  FnOk P w K mg base (CXE P w) 4 f fd ["thing"] (yg T):=by
 refine F.zokN scRo (fun vs H Q E h=>?_) (fun cdv A outer s H vs Q E hr h=>?_)
 ·obtain ⟨x,c,rfl,_⟩:=h;rfl
 ·obtain ⟨x,c,rfl,hx,ht,q⟩:=h;refine ⟨_,ae (aH (be (aR (aI (au aV (by rfl) B.isi aW (ac (zpv 0) (ac (ba (by rfl) B.tuple boot_tuple (v:=.ty "tuple") rfl) aa)))))
    (bh (aA kQ (au aN (by rfl) B.len PySem.boot_len (ac (zpv 0) aa)) ag (aG _)))).pt cq az)
   (ae (eL (zpv 0) (df rfl (aE (aq (i:=1) scRo.nd rfl (Or.inl rfl)) (aE (aq (i:=2) scRo.nd rfl (Or.inl rfl)) (aE (aq (i:=3) scRo.nd rfl (Or.inl rfl)) bw)))))
   (ah (ay (hZ (aj GL hr (by rfl) mL kL bL .nil aw (ac (zpv 1) aa)) (hZ (aj GA hr (by rfl) mA kA bA .nil aw (ac (zpv 2) aa)) (iQ (zo (bx yK (zpv 3) hX (aG _)) (iQ (aj GA hr (by rfl) mA kA bA .nil aw (ac (zpv 3) aa)))))))))),?_⟩
  obtain ⟨a,p,l,rfl,ha,hp,hl⟩:=hx.ex;refine ⟨_,rfl,_,_,_,true,rfl,.of (.tup ha),.inl ⟨_,rfl,kt1⟩,_,rfl,aU ?_⟩;refine ⟨_,rfl,a,_,rfl,.inr (SqT.of ha),rfl,_,rfl,aU ?_⟩;refine ⟨_,rfl,a,_,rfl,SqT.of ha,rfl,_,_,rfl,_,_,rfl,_,_,rfl,rfl,?_⟩;refine ⟨_,rfl,c,rfl,hx.oc,ht,fun ps' tr'=>⟨_,rfl,bc ?_⟩⟩;have k:Kp H (upd H T (.tbl ps')):=Kp.tab ht;refine ⟨_,rfl,_,rfl,hp.kp k,_,rfl,bc ⟨_,rfl,rfl,_,rfl,?_⟩⟩;rcases hl with rfl | hl
  ·exact bc (q ps' tr')
  ·have ne:l≠.non:=fun z=>by
    obtain ⟨_,_,_,e,_⟩:=hl.ex;rw [z] at e; cases e
   rw [decide_eq_false ne];exact aU ⟨_,rfl,_,rfl,hl.kp k,q ps' tr'⟩
end
end G1
namespace L2
open PySem
theorem boot_list:bootBuiltins "list" = some (.type "list"):=by decide +kernel
theorem kl1 {K:PySem.W.Frag}:PySem.W.kitOne K (.type "list") (.type "list")=some true:=by kernel_rfl
theorem Az {K:PySem.W.Frag}:PySem.W.kitOne K (.type "str") (.type "str")=some true:=by kernel_rfl
theorem dL {X:Cx} (K:PySem.W.Frag) (h:X.K=K):IxR X (yO K):=h ▸ bj
end L2
namespace G1
open PySem L2 GM
theorem Kp.upd_new {H H1 H2:Hp} {l:Addr} {o:HO} (k1:Kp H H1) (n:H1 l=none) (k2:Kp H H2):Kp H (upd H2 l o):=fun b u h hn=>by
 rw [am (ak (k1 b u h hn) n)]; exact k2 b u h hn
structure Rows (H:Hp) (xs:List V) (cs:List Nat):Prop where
 len:xs.length=cs.length
 row:∀(i:Nat) (x:V) (c:Nat),xs[i]? = some x→cs[i]? = some c→Row H x c
theorem Rows.kp {H H':Hp} {xs:List V} {cs:List Nat} (h:Rows H xs cs) (k:Kp H H'):Rows H' xs cs:=⟨h.len,fun i x c e1 e2=>(h.row i x c e1 e2).kp k⟩
theorem Rows.at {H:Hp} {xs:List V} {cs:List Nat} {i:Nat} {x:V} (h:Rows H xs cs) (e:xs[i]? = some x):∃c,cs[i]? = some c∧Row H x c:=by
 have hi:i < cs.length:=by rw [← h.len]; exact (List.getElem?_eq_some_iff.mp e).1
 exact ⟨cs[i],List.getElem?_eq_getElem hi,h.row i x _ e (List.getElem?_eq_getElem hi)⟩
theorem dM {a b:Nat} (h:sg1 a=sg1 b):a=b:=by
 unfold sg1 at h;injection h with h;injection h with h;injection h
theorem pZ {cs:List Nat} (h:cs.Nodup) {i c:Nat} (e:cs[i]? = some c):sg1 c∉(cs.take i).map sg1:=fun m=>by
 obtain ⟨d,hd,z⟩:=List.mem_map.mp m;have:=dM z;subst this;obtain ⟨j,hj⟩:=List.getElem?_of_mem hd;have hj':j < i:=by
  have:=(List.getElem?_eq_some_iff.mp hj).1;rw [List.length_take] at this; omega
 rw [List.getElem?_take_of_lt hj'] at hj;obtain ⟨hi1,hi2⟩:=List.getElem?_eq_some_iff.mp e;obtain ⟨hj1,hj2⟩:=List.getElem?_eq_some_iff.mp hj;have:=(List.getElem_inj (h₀:=hj1) (h₁:=hi1) h).mp (by rw [hi2,hj2]);omega
section
variable {P:Program} {w:World} {K:PySem.W.Frag} {mg:Str→Option Value} {base:Heap}
def qT (T1 T2:Addr):Sp:=fun vs H Q _=>∃(L:Addr) (xs:List V) (cs:List Nat),vs=[.ref L]∧H L=some (.lst xs)∧Rows H xs cs∧cs.Nodup∧2≤cs.length∧cs.length≤6∧Tab T1 H∧Tab T2 H∧∀H',Kp H H'→Tab T1 H'→Tab T2 H'→Q (.bl true) H'
theorem Bc:FnScope ["thing"] ["thing"] (af du):=⟨rfl,rfl,rfl,by decide +kernel,rfl,by decide +kernel,by decide +kernel⟩
theorem uT {T1 T2 f c fR:Addr} {fdR:FuncData} {kV doc pm ct oc:Value} {an od:Option Addr} {osl:Array (Option Value)} {t1 t2:Tok}
  (lk:K.lookup f=some ⟨oc,od,.func (PySem.W.fnOf "are_signs" "are_signs" (aD du) (aC du) (af du) .none kV doc pm an (.ref c) ct),osl⟩) (hcd:PySem.W.codeIn K (.ref c) "are_signs" = true)
  (B:Bl mg) (CK:CodeK K c T2) (hbm:kr mg base) (mF:mg "FEWEST_SIGNS" = some (.int 2 t1)) (mM:mg "MOST_SIGNS" = some (.int 6 t2))
  (GR:FnOk P w K mg base (CXE P w) 4 fR fdR ["thing"] (yg T1)) (mR:mg "is_sign_row" = some (.ref fR)) (kR:PySem.W.keepIn K (.ref fR)=true) (bR:Binds K fdR ["thing"] []) :
  FnOk P w K mg base (CXE P w) 6 f (PySem.W.fnOf "are_signs" "are_signs" (aD du) (aC du) (af du) .none kV doc pm an (.ref c) ct) ["thing"] (qT T1 T2):=by
 refine okC lk hcd Bc (fun vs H Q E h=>?_) (fun A outer s H vs Q E hr h=>?_)
 ·obtain ⟨L,xs,cs,rfl,_⟩:=h;rfl
 ·obtain ⟨L,xs,cs,rfl,hL,rows,nd,c2,c6,ht1,ht2,q⟩:=h;refine ⟨_,ae (aH (be (aR (aI (au aV (by rfl) B.isi aW (ac (zpv 0) (ac (ba (by rfl) B.list boot_list (v:=.ty "list") rfl) aa)))))
    (be (aA lf (au aN (by rfl) B.len PySem.boot_len (ac (zpv 0) aa)) (bq (by rfl) mF (v:=.int 2) ⟨_,rfl⟩) (aG _))
    (bh (aA ii (au aN (by rfl) B.len PySem.boot_len (ac (zpv 0) aa)) (bq (by rfl) mM (v:=.int 6) ⟨_,rfl⟩) (aG _))))).pt cq az)
   (ae (aH (aR (aI (qR ["thing"] ["row"] [] (af du) rfl hr (by rfl) B.all rfl CK ⟨hbm⟩ rfl rfl ⟨by decide +kernel,by decide +kernel,by decide +kernel,by decide +kernel,by decide +kernel⟩ (by decide +kernel) (by decide +kernel) (aQ (zpv 0))
     (fun code s H fp=>aq (i:=0) (show List.Nodup [("row" : Str)] by decide +kernel) rfl (Or.inl rfl)) (fun code s H fp=>aj GR hr.gen (by rfl) mR kR bR .nil aw (ac (zpv 0) aa))))) cq az)
   (ah (ay (bx cz (au ky (by rfl) B.len PySem.boot_len (gf (oH ["thing"] ["row"] [] (af du) rfl rfl rfl ⟨by decide +kernel,by decide +kernel,by decide +kernel,by decide +kernel,by decide +kernel⟩ (aQ (zpv 0))
     (fun s H fp=>aq (i:=0) (show List.Nodup [("row" : Str)] by decide +kernel) rfl (Or.inl rfl)) (fun s H fp=>bM) (fun s H fp=>aJ (dL K rfl) (zpv 0) ag (fun _ _=>rfl))) aa))
    (au aN (by rfl) B.len PySem.boot_len (ac (zpv 0) aa)) (aG _))))),?_⟩
  have ln:xs.length=cs.length:=rows.len;refine ⟨_,rfl,_,_,_,true,rfl,.of (.lst hL),.inl ⟨_,rfl,kl1⟩,_,rfl,aU ?_⟩;refine ⟨_,rfl,L,_,rfl,.inl (SqL.of hL),_,_,rfl,rfl,_,rfl,?_⟩;refine bE (fun e=>absurd (of_decide_eq_true e) (by omega)) (fun _=>?_);refine ⟨_,rfl,L,_,rfl,.inl (SqL.of hL),_,_,rfl,rfl,_,rfl,?_⟩;refine bE (fun e=>absurd (of_decide_eq_true e) (by omega)) (fun _=>?_);obtain ⟨ps2,hT2,tr2⟩:=id ht2;refine ⟨_,rfl,L,rfl,⟨_,SqL.of hL⟩,ps2,hT2,tr2,fun ps' tr'=>?_⟩;refine ⟨fun i m σ2 H2=>i≤cs.length∧m=cs.length - i∧(∃v,σ2=[v])∧Kp H H2∧Tab T1 H2∧Tab T2 H2,⟨_,Nat.zero_le _,rfl,⟨_,rfl⟩,Kp.tab ht2,ht1.put tr',ht2.put tr'⟩,?_⟩;rintro i m σ2 H2 ⟨hi,rfl,⟨v,rfl⟩,k2,a2,b2⟩
  by_cases hlt:i < cs.length
  ·refine .inr ⟨⟨_,_,SqL.of (k2.lst hL),List.getElem?_eq_getElem (show i < xs.length by omega)⟩,?_⟩;rintro x H3 ⟨rfl,hx⟩;obtain ⟨cc,hc,row⟩:=rows.at (hx _ (SqL.of (k2.lst hL)));refine ⟨_,rfl,x,cc,rfl,row.kp k2,a2,fun ps'' tr''=>⟨_,rfl,bc ⟨cs.length - (i + 1),by omega,hlt,rfl,⟨_,rfl⟩,k2.trans (Kp.tab a2),a2.put tr'',b2.put tr''⟩⟩⟩
  ·refine .inl ⟨⟨_,SqL.of (k2.lst hL),by omega⟩,_,rfl,aU ?_⟩;clear hlt;have hL2:=k2.lst hL;refine ⟨_,rfl,L,rfl,⟨_,SqL.of hL2⟩,fun l hl=>?_⟩;refine ⟨fun i m σ3 H3=>i≤cs.length∧m=cs.length - i∧(∃v,σ3=[v])∧H3 l=some (gv P w l ((cs.take i).map sg1))∧Kp H H3∧Tab T1 H3∧Tab T2 H3,
    ⟨_,Nat.zero_le _,rfl,⟨_,rfl⟩,ai,k2.trans (Kp.new hl),a2.new hl,b2.new hl⟩,?_⟩
   rintro j m σ3 H3 ⟨hj,rfl,⟨v,rfl⟩,hs3,k3,a3,b3⟩;have hL3:=k3.lst hL
   by_cases hlt:j < cs.length
   ·refine .inr ⟨⟨_,_,SqL.of hL3,List.getElem?_eq_getElem (show j < xs.length by omega)⟩,?_⟩;rintro x H4 ⟨rfl,hx⟩;obtain ⟨cc,hc,row⟩:=rows.at (hx _ (SqL.of hL3));obtain ⟨a,p,la,rfl,ha,_⟩:=(row.kp k3).ex;dsimp only [cF];rw [if_pos rfl];refine ⟨_,rfl,a,_,_,_,rfl,rfl,SqT.of ha,rfl,sg1 cc,_,rfl,hs3,?_,?_⟩
    ·rw [List.length_map,List.length_take]; omega
    have ins:ku (sg1 cc) ((cs.take j).map sg1)=(cs.take (j + 1)).map sg1:=by
     unfold ku;rw [if_neg (pZ nd hc),List.take_add_one,hc,List.map_append];rfl
    have no:∀q,gv P w l ((cs.take j).map sg1)≠.tbl q:=nofun;refine ⟨cs.length - (j + 1),by omega,hlt,rfl,⟨_,rfl⟩,by rw [ins]; exact ai,k2.upd_new hl k3,a3.set hs3 no,b3.set hs3 no⟩
   ·have e:j=cs.length:=by omega
    subst e;refine .inl ⟨⟨_,SqL.of hL3,by omega⟩,l,_,rfl,hs3,_,rfl,L,_,rfl,.inl (SqL.of hL3),rfl,?_⟩;have e1:(V.int ((List.map sg1 (List.take cs.length cs)).length:Nat))=V.int (xs.length:Nat):=by rw [List.length_map,List.take_length,ln]
    rw [e1,decide_eq_true rfl];exact q _ k3 a3 b3
end
def txs (ts:List Str):List V:=ts.map V.str
theorem cy (ts:List Str):(txs ts).all cA=true:=by
 unfold txs;rw [List.all_map];exact List.all_eq_true.mpr fun _ _=>rfl
theorem dN (t:Str) (ts:List Str):inV (.str t) (txs ts)=decide (t∈ts):=by
 unfold inV txs;rw [List.any_map,Bool.eq_iff_iff,List.any_eq_true,decide_eq_true_iff];constructor
 ·rintro ⟨y,hy,e⟩;have:(y == t)=true:=e;rw [← eq_of_beq this]; exact hy
 ·intro h;exact ⟨t,h,by show (t == t)=true; exact beq_self_eq_true t⟩
def sgs (cs:List Nat):List Str:=cs.map sg1
section
variable {P:Program} {w:World} {K:PySem.W.Frag} {mg:Str→Option Value} {base:Heap}
def dU (K:PySem.W.Frag):Sp:=fun vs H Q _=>∃(t S:Addr) (f p lg:V) (xs:List V) (cs:List Nat),vs=[.ref t]∧SqT K H t [.ref S,f,p,lg]∧H S=some (.lst xs)∧Rows H xs cs∧cs.length≤6∧∀l H',H l=none→Same H H'→H' l=some (.lst (txs (sgs cs)))→Q (.ref l) H'
theorem Bd:FnScope ["tongue"] ["tongue"] (af dZ):=⟨rfl,rfl,rfl,by decide +kernel,rfl,by decide +kernel,by decide +kernel⟩
theorem p0 {f:Addr} {fd:FuncData} (F:FunG K "signs_of" "signs_of" dZ .none f fd):FnOk P w K mg base (CXE P w) 1 f fd ["tongue"] (dU K):=by
 refine F.zokN Bd (fun vs H Q E h=>?_) (fun cdv A outer s H vs Q E hr h=>?_)
 ·obtain ⟨t,S,f,p,lg,xs,cs,rfl,_⟩:=h;rfl
 ·obtain ⟨t,S,f,p,lg,xs,cs,rfl,ht,hS,rows,c6,q⟩:=h;refine ⟨_,ah (ay (j2 ["tongue"] ["row"] [] (af dZ) rfl rfl rfl ⟨by decide +kernel,by decide +kernel,by decide +kernel,by decide +kernel,by decide +kernel⟩ (aQ (aJ bj (zpv 0) ag (fun _ _=>rfl)))
    (fun s H fp=>aq (i:=0) (show List.Nodup [("row" : Str)] by decide +kernel) rfl (Or.inl rfl)) (fun s H fp=>bM) (fun s H fp=>aJ (dL K rfl) (zpv 0) ag (fun _ _=>rfl)))),?_⟩
  refine ⟨_,rfl,t,_,_,_,rfl,rfl,ht,rfl,S,rfl,⟨_,SqL.of hS⟩,fun l hl=>?_⟩;refine ⟨fun i m σ2 H2=>i≤cs.length∧m=cs.length - i∧(∃v,σ2=[v])∧H2 l=some (.lst (txs (sgs (cs.take i))))∧Same H H2,⟨_,Nat.zero_le _,rfl,⟨_,rfl⟩,ai,aF hl⟩,?_⟩;rintro i m σ2 H2 ⟨hi,rfl,⟨v,rfl⟩,hl2,s2⟩;have hS2:=s2 _ _ hS
  by_cases hlt:i < cs.length
  ·refine .inr ⟨⟨_,_,SqL.of hS2,List.getElem?_eq_getElem (show i < xs.length by rw [rows.len]; exact hlt)⟩,?_⟩;rintro x H3 ⟨rfl,hx⟩;obtain ⟨cc,hc,row⟩:=rows.at (hx _ (SqL.of hS2));obtain ⟨a,p,la,rfl,ha,_⟩:=(row.kp (Kp.same s2)).ex;dsimp only [cF];rw [if_pos rfl];refine ⟨_,rfl,a,_,_,_,rfl,rfl,SqT.of ha,rfl,_,hl2,?_,cs.length - (i + 1),by omega,hlt,rfl,⟨_,rfl⟩,?_,?_⟩
   ·unfold txs sgs;rw [List.length_map,List.length_map,List.length_take];exact Nat.lt_of_le_of_lt (show min i cs.length≤6 by omega) (by decide)
   ·have:txs (sgs (cs.take i)) ++ [V.str (sg1 cc)]=txs (sgs (cs.take (i + 1))):=by
     unfold txs sgs;rw [List.take_add_one,hc,List.map_append,List.map_append]; rfl
    rw [← this]; exact ai
   ·intro b o hb;rw [am (ak hb hl)]; exact s2 b o hb
  ·have e:i=cs.length:=by omega
   subst e;rw [List.take_length] at hl2;exact .inl ⟨⟨_,SqL.of hS2,by rw [rows.len]; exact Nat.le_refl _⟩,q l H2 hl s2 hl2⟩
def oJ (K:PySem.W.Frag):Sp:=fun vs H Q _=>∃(C L:Addr) (ks ts:List Str),vs=[.ref C,.ref L]∧H C=some (.lst (txs ks))∧H L=some (.lst (txs ts))∧ts.Nodup∧(∀t∈ts,t∈ks)∧ts.length≤100∧∀H',Same H H'→Q (.bl true) H'
theorem scUl:FnScope ["choices","thing","seen","text"] ["choices","thing"] (af gZ):=⟨rfl,rfl,rfl,by decide +kernel,rfl,by decide +kernel,by decide +kernel⟩
theorem oK {ts:List Str} (h:ts.Nodup) {i:Nat} {t:Str} (e:ts[i]? = some t):t∉ts.take i:=fun m=>by
 obtain ⟨j,hj⟩:=List.getElem?_of_mem m;have hj':j < i:=by
  have:=(List.getElem?_eq_some_iff.mp hj).1;rw [List.length_take] at this; omega
 rw [List.getElem?_take_of_lt hj'] at hj;obtain ⟨hi1,hi2⟩:=List.getElem?_eq_some_iff.mp e;obtain ⟨hj1,hj2⟩:=List.getElem?_eq_some_iff.mp hj;have:=(List.getElem_inj (h₀:=hj1) (h₁:=hi1) h).mp (by rw [hi2,hj2]);omega
theorem sO {f:Addr} {fd:FuncData} (F:FunG K "are_unlike_texts_of" "are_unlike_texts_of" gZ .none f fd) (B:Bl mg):FnOk P w K mg base (CXE P w) 1 f fd ["choices","thing"] (oJ K):=by
 refine F.zokN scUl (fun vs H Q E h=>?_) (fun cdv A outer s H vs Q E hr h=>?_)
 ·obtain ⟨C,L,ks,ts,rfl,_⟩:=h;rfl
 ·obtain ⟨C,L,ks,ts,rfl,hC,hL,nd,sub,len,q⟩:=h;refine ⟨_,ae (aH (aR (aI (au aV (by rfl) B.isi aW (ac (zpv 1) (ac (ba (by rfl) B.list boot_list (v:=.ty "list") rfl) aa))))) cq az)
   (ae (ax (i:=2) scUl.nd rfl (Or.inl rfl) (oG sj (by rfl) B.set boot_set))
   (ae (cE PassesOwn.never rfl (aQ (zpv 1)) (aq (i:=3) scUl.nd rfl (Or.inl rfl))
    (ae (aH (be (aR (aI (au aV (by rfl) B.isi aW (ac (zpv 3) (ac (ba (by rfl) B.str boot_str (v:=.ty "str") rfl) aa)))))
      (be (aA cg (zpv 3) (zpv 0) rfl) (bh (aA sk (zpv 3) (zpv 2) rfl)))).pt cq az)
    (ah (bK (pY (zpv 2) (ac (zpv 3) aa))))))
   (ah (ay bQ)))),?_⟩
  refine ⟨_,rfl,_,_,_,true,rfl,.of (.lst hL),.inl ⟨_,rfl,kl1⟩,_,rfl,aU ?_⟩;refine ⟨rfl,fun p hp=>?_⟩;refine ⟨_,rfl,L,rfl,⟨_,SqL.of (aF hp _ _ hL)⟩,dA (K:=K) (a:=L) (xs:=txs ts)
   (fun i σ H2=>(∃v,σ=[some (.ref C),some (.ref L),some (.ref p),v])∧H2 p=some (gv P w p (ts.take i))∧Same H H2) ⟨⟨_,rfl⟩,ai,aF hp⟩ ?_ ?_ ?_⟩
  ·rintro i σ H2 _ ⟨_,_,s2⟩;exact SqL.of (s2 _ _ hL)
  ·rintro i x σ H2 hx ⟨⟨v,rfl⟩,hp2,s2⟩;obtain ⟨t,ht,rfl⟩:∃t,ts[i]? = some t∧x = .str t:=by
    unfold txs at hx;rw [List.getElem?_map] at hx;obtain ⟨t,h1,h2⟩:=Option.map_eq_some_iff.mp hx;exact ⟨t,h1,h2.symm⟩
   have ilt:=(List.getElem?_eq_some_iff.mp ht).1;refine ⟨_,rfl,_,_,_,true,rfl,.of (.str t),.inl ⟨_,rfl,Az⟩,_,rfl,aU ?_⟩;refine ⟨_,rfl,_,rfl,C,_,rfl,.inl (SqL.of (s2 _ _ hC)),rfl,cy ks,_,rfl,?_⟩;have m1:inV (.str t) (txs ks)=true:=by rw [dN]; exact decide_eq_true (sub t (List.mem_of_getElem? ht))
   refine bE (fun e=>absurd e (by
    show ¬((!inV (.str t) (txs ks))=true);rw [m1]; decide)) (fun _=>?_)
   refine ⟨_,rfl,_,rfl,t,p,_,rfl,rfl,hp2,_,rfl,?_⟩;have fr:=oK nd ht;refine bE (fun e=>absurd e (by
    show ¬(decide (t∈ts.take i)=true);rw [decide_eq_false fr]; decide)) (fun _=>?_)
   refine ⟨_,rfl,⟨p,_,rfl,hp2⟩,_,rfl,p,t,_,rfl,rfl,hp2,?_,?_⟩
   ·rw [List.length_take]; omega
   refine ⟨⟨_,rfl⟩,?_,fun b o hb=>?_⟩
   ·have:ku t (ts.take i)=ts.take (i + 1):=by
     unfold ku;rw [if_neg fr,List.take_add_one,ht]; rfl
    rw [this]; exact ai
   ·rw [am (ak hb hp)]; exact s2 b o hb
  ·rintro σ H2 ⟨⟨v,rfl⟩,_,s2⟩;exact q H2 s2
end
end G1
namespace L2
theorem sP {X:Cx} {tg l:PySem.Expr} {tl:TE} (K:PySem.W.Frag) (h:X.K=K) (hl:SPE X l tl):SPI X tg l (tV K tl):=h ▸ aQ hl
end L2
namespace G1
open PySem L2 GM
def prs (ks:List Str):List Str:=ks.flatMap fun a=>ks.map fun b=>a ++ b
structure Tg (H:Hp) (t:Addr) (cs:List Nat) (fs ps:List Str) (lg:Int):Prop where
 ex:∃S F Pp xs,H t=some (.tup [.ref S,.ref F,.ref Pp,.int lg])∧H S=some (.lst xs)∧Rows H xs cs∧H F=some (.lst (txs fs))∧H Pp=some (.lst (txs ps))
 nd:cs.Nodup
 c2:2≤cs.length
 c6:cs.length≤6
 fnd:fs.Nodup
 fsub:∀f∈fs,f∈sgs cs
 pnd:ps.Nodup
 psub:∀p∈ps,p∈prs (sgs cs)
 l1:1≤lg
 l8:lg≤8
theorem Tg.kp {H H':Hp} {t:Addr} {cs:List Nat} {fs ps:List Str} {lg:Int} (h:Tg H t cs fs ps lg) (k:Kp H H'):Tg H' t cs fs ps lg:=by
 obtain ⟨S,F,Pp,xs,h1,h2,h3,h4,h5⟩:=h.ex;exact {h with ex:=⟨S,F,Pp,xs,k.tup h1,k.lst h2,h3.kp k,k.lst h4,k.lst h5⟩}
theorem j6:∀{fs ks:List Str},fs.Nodup→(∀f∈fs,f∈ks)→fs.length≤ks.length
 | [],_,_,_=>Nat.zero_le _
 | f :: fs,ks,h,s=>by
  have hf:=s f List.mem_cons_self;obtain ⟨a,b,rfl⟩:=List.append_of_mem hf;have:=j6 (fs:=fs) (ks:=a ++ b) (List.nodup_cons.mp h).2 fun g hg=>by
   have:=s g (List.mem_cons_of_mem _ hg);rcases List.mem_append.mp this with z | z
   ·exact List.mem_append_left _ z
   ·rcases List.mem_cons.mp z with rfl | z
    ·exact absurd hg (List.nodup_cons.mp h).1
    ·exact List.mem_append_right _ z
  simp only [List.length_append,List.length_cons] at this ⊢;omega
theorem j7 (ks:List Str) (f:Str→List Str) (n:Nat) (h:∀a,(f a).length=n):(ks.flatMap f).length=ks.length * n:=by
 induction ks with
 | nil=>simp
 | cons k ks ih=>rw [List.flatMap_cons,List.length_append,ih,h,List.length_cons,Nat.succ_mul,Nat.add_comm]
theorem w8 (ks:List Str):(prs ks).length=ks.length * ks.length:=j7 ks _ _ fun a=>by rw [List.length_map]
theorem Tg.flen {H:Hp} {t:Addr} {cs:List Nat} {fs ps:List Str} {lg:Int} (h:Tg H t cs fs ps lg):fs.length≤6:=by
 have:=j6 h.fnd h.fsub;have:=h.c6;unfold sgs at *;rw [List.length_map] at *;omega
theorem Tg.plen {H:Hp} {t:Addr} {cs:List Nat} {fs ps:List Str} {lg:Int} (h:Tg H t cs fs ps lg):ps.length≤36:=by
 have e:=j6 h.pnd h.psub;have c6:=h.c6;rw [w8] at e;have:(sgs cs).length=cs.length:=List.length_map ..;rw [this] at e;exact Nat.le_trans e (Nat.mul_le_mul c6 c6)
theorem oN {ks:List Str} {i:Nat} {a:Str} (e:ks[i]? = some a):(ks.take (i + 1)).flatMap (fun a=>ks.map fun b=>a ++ b)=(ks.take i).flatMap (fun a=>ks.map fun b=>a ++ b) ++ ks.map fun b=>a ++ b:=by
 rw [List.take_add_one,e,List.flatMap_append];simp
section
variable {P:Program} {w:World} {K:PySem.W.Frag} {mg:Str→Option Value} {base:Heap}
def p6 (T1 T2:Addr):Sp:=fun vs H Q _=>∃(t:Addr) (cs:List Nat) (fs ps:List Str) (lg:Int),vs=[.ref t]∧Tg H t cs fs ps lg∧Tab T1 H∧Tab T2 H∧∀H',Kp H H'→Tab T1 H'→Tab T2 H'→Q .non H'
theorem scLk:FnScope ["thing","signs","firsts","pairs","longest","letters"] ["thing"] (af jY):=⟨rfl,rfl,rfl,by decide +kernel,rfl,by decide +kernel,by decide +kernel⟩
theorem xa {T1 T2 f fS fO fU fI:Addr} {fd fdS fdO fdU fdI:FuncData} {tk:Tok} (F:FunG K "look_at_tongue" "look_at_tongue" jY .none f fd) (B:Bl mg) (mM:mg "LONGEST_WORD" = some (.int 8 tk))
  (GS:FnOk P w K mg base (CXE P w) 6 fS fdS ["thing"] (qT T1 T2)) (mS:mg "are_signs" = some (.ref fS)) (kS:PySem.W.keepIn K (.ref fS)=true) (bS:Binds K fdS ["thing"] [])
  (GO:FnOk P w K mg base (CXE P w) 1 fO fdO ["tongue"] (dU K)) (mO:mg "signs_of" = some (.ref fO)) (kO:PySem.W.keepIn K (.ref fO)=true) (bO:Binds K fdO ["tongue"] [])
  (GU:FnOk P w K mg base (CXE P w) 1 fU fdU ["choices","thing"] (oJ K)) (mU:mg "are_unlike_texts_of" = some (.ref fU)) (kU:PySem.W.keepIn K (.ref fU)=true) (bU:Binds K fdU ["choices","thing"] [])
  (GI:FnOk P w K mg base (CXE P w) 2 fI fdI ["thing","least","most"] j5) (mI:mg "is_whole_within" = some (.ref fI)) (kI:PySem.W.keepIn K (.ref fI)=true) (bI:Binds K fdI ["thing","least","most"] []) :
  FnOk P w K mg base (CXE P w) 7 f fd ["thing"] (p6 T1 T2):=by
 refine F.zokN scLk (fun vs H Q E h=>?_) (fun cdv A outer s H vs Q E hr h=>?_)
 ·obtain ⟨t,cs,fs,ps,lg,rfl,_⟩:=h;rfl
 ·obtain ⟨t,cs,fs,ps,lg,rfl,hg,ht1,ht2,q⟩:=h;have hr1:Room 1 _:=hr.mono (by decide);have hr2:Room 2 _:=hr.mono (by decide);refine ⟨_,ae (aH (be (aR (aI (au aV (by rfl) B.isi aW (ac (zpv 0) (ac (ba (by rfl) B.tuple boot_tuple (v:=.ty "tuple") rfl) aa)))))
    (bh (aA kQ (au aN (by rfl) B.len PySem.boot_len (ac (zpv 0) aa)) ag (aG _)))).pt cq az)
   (ae (eL (zpv 0) (df rfl (aE (aq (i:=1) scLk.nd rfl (Or.inl rfl)) (aE (aq (i:=2) scLk.nd rfl (Or.inl rfl)) (aE (aq (i:=3) scLk.nd rfl (Or.inl rfl)) (aE (aq (i:=4) scLk.nd rfl (Or.inl rfl)) bw))))))
   (ae (aH (aR (aI (aj GS hr (by rfl) mS kS bS .nil aw (ac (zpv 1) aa)))) cq az)
   (ae (ax (i:=5) scLk.nd rfl (Or.inr rfl) (aj GO hr1 (by rfl) mO kO bO .nil aw (ac (zpv 0) aa)))
   (ae (aH (aR (aI (aj GU hr1 (by rfl) mU kU bU .nil aw (ac (zpv 5) (ac (zpv 2) aa))))) cq az)
   (ae (aH (aR (aI (aj GU hr1 (by rfl) mU kU bU .nil aw (gf (sK ["thing","signs","firsts","pairs","longest","letters"] ["one","other"] [5] (af jY) rfl rfl rfl ⟨by decide +kernel,by decide +kernel,by decide +kernel,by decide +kernel,by decide +kernel⟩ (aQ (zpv 5))
      (fun s H fp=>aq (i:=0) (show List.Nodup [("one" : Str),"other","letters"] by decide +kernel) rfl (Or.inl rfl)) (fun s H fp=>bM)
      (fun s H fp=>sP K rfl (zpv 2)) (fun s H fp=>aq (i:=1) (show List.Nodup [("one" : Str),"other","letters"] by decide +kernel) rfl (Or.inl rfl)) (fun s H fp=>bM)
      (fun s H fp=>aS cM (zpv 0) (zpv 1))) (ac (zpv 3) aa))))) cq az)
   (ah (aH (aR (aI (aj GI hr2 (by rfl) mI kI bI .nil aw (ac (zpv 4) (aM ag (ac (bq (by rfl) mM (v:=.int 8) ⟨_,rfl⟩) aa)))))) cq az))))))),?_⟩
  obtain ⟨S,F',Pp,xs,g1,g2,g3,g4,g5⟩:=hg.ex;refine ⟨_,rfl,_,_,_,true,rfl,.of (.tup g1),.inl ⟨_,rfl,kt1⟩,_,rfl,aU ?_⟩;refine ⟨_,rfl,t,_,rfl,.inr (SqT.of g1),rfl,_,rfl,aU ?_⟩;refine ⟨_,rfl,t,_,rfl,SqT.of g1,rfl,_,_,rfl,_,_,rfl,_,_,rfl,_,_,rfl,rfl,?_⟩;refine ⟨_,rfl,S,xs,cs,rfl,g2,g3,hg.nd,hg.c2,hg.c6,ht1,ht2,fun H1 k1 a1 b1=>⟨_,rfl,aU ?_⟩⟩;refine ⟨_,rfl,t,S,_,_,_,xs,cs,rfl,SqT.of (k1.tup g1),k1.lst g2,g3.kp k1,hg.c6,fun l H2 hl s2 hl2=>?_⟩;have k2:Kp H H2:=k1.trans (Kp.same s2);refine ⟨_,rfl,_,rfl,l,F',sgs cs,fs,rfl,hl2,k2.lst g4,hg.fnd,hg.fsub,Nat.le_trans hg.flen (by decide),fun H3 s3=>⟨_,rfl,aU ?_⟩⟩;have k3:=k2.trans (Kp.same s3);have hl3:=s3 _ _ hl2;refine ⟨_,rfl,l,rfl,⟨_,SqL.of hl3⟩,fun p hp=>?_⟩;have kl:(sgs cs).length≤6:=by unfold sgs; rw [List.length_map]; exact hg.c6
  refine ⟨fun i m σ2 H4=>i≤(sgs cs).length∧m=(sgs cs).length - i∧(∃v1 v2,σ2=[v1,v2,some (.ref l)])∧H4 p=some (.lst (txs (((sgs cs).take i).flatMap fun a=>(sgs cs).map fun b=>a ++ b)))∧Same H3 H4,
   ⟨_,Nat.zero_le _,rfl,⟨_,_,rfl⟩,ai,aF hp⟩,?_⟩
  rintro i m σ2 H4 ⟨hi,rfl,⟨v1,v2,rfl⟩,hp4,s4⟩;have hl4:=s4 _ _ hl3;have len:(txs (sgs cs)).length=(sgs cs).length:=List.length_map ..
  by_cases hlt:i < (sgs cs).length
  ·refine .inr ⟨⟨_,_,SqL.of hl4,List.getElem?_eq_getElem (show i < (txs (sgs cs)).length by rw [len]; exact hlt)⟩,?_⟩;rintro x H5 ⟨rfl,hx⟩;obtain ⟨a,ha,rfl⟩:∃a,(sgs cs)[i]? = some a∧x = .str a:=by
    have hx:=hx _ (SqL.of hl4);unfold txs at hx;rw [List.getElem?_map] at hx;obtain ⟨t,h1,h2⟩:=Option.map_eq_some_iff.mp hx;exact ⟨t,h1,h2.symm⟩
   dsimp only [cF];rw [if_pos rfl];refine ⟨_,rfl,l,rfl,⟨_,SqL.of hl4⟩,?_⟩;refine ⟨fun j m σ3 H6=>j≤(sgs cs).length∧m=(sgs cs).length - j∧(∃v2,σ3=[some (.str a),v2,some (.ref l)])∧H6 p=some (.lst (txs (((sgs cs).take i).flatMap (fun a=>(sgs cs).map fun b=>a ++ b) ++ ((sgs cs).take j).map fun b=>a ++ b)))∧Same H3 H6,
    ⟨_,Nat.zero_le _,rfl,⟨_,rfl⟩,by simpa using hp4,s4⟩,?_⟩
   rintro j m σ3 H6 ⟨hj,rfl,⟨v2,rfl⟩,hp6,s6⟩;have hl6:=s6 _ _ hl3
   by_cases hjt:j < (sgs cs).length
   ·refine .inr ⟨⟨_,_,SqL.of hl6,List.getElem?_eq_getElem (show j < (txs (sgs cs)).length by rw [len]; exact hjt)⟩,?_⟩;rintro y H7 ⟨rfl,hy⟩;obtain ⟨b,hb,rfl⟩:∃b,(sgs cs)[j]? = some b∧y = .str b:=by
     have hy:=hy _ (SqL.of hl6);unfold txs at hy;rw [List.getElem?_map] at hy;obtain ⟨t,h1,h2⟩:=Option.map_eq_some_iff.mp hy;exact ⟨t,h1,h2.symm⟩
    have one:∀z∈sgs cs,z.length=1:=fun z hz=>by
     obtain ⟨c,_,rfl⟩:=List.mem_map.mp hz;rfl
    dsimp only [cF];rw [if_pos rfl];refine ⟨_,rfl,_,rfl,a,b,rfl,rfl,?_,_,hp6,?_,(sgs cs).length - (j + 1),by omega,hjt,rfl,⟨_,rfl⟩,?_,?_⟩
    ·rw [one a (List.mem_of_getElem? ha),one b (List.mem_of_getElem? hb)]; decide
    ·unfold txs;rw [List.length_map,List.length_append,j7 _ _ (sgs cs).length (fun a=>by rw [List.length_map]),List.length_map,List.length_take,List.length_take];have:min i (sgs cs).length * (sgs cs).length≤6 * 6:=Nat.mul_le_mul (by omega) kl;exact Nat.lt_of_le_of_lt (show _≤42 by omega) (by decide)
    ·have:((sgs cs).take i).flatMap (fun a=>(sgs cs).map fun b=>a ++ b) ++ ((sgs cs).take (j + 1)).map (fun b=>a ++ b)=(((sgs cs).take i).flatMap (fun a=>(sgs cs).map fun b=>a ++ b) ++ ((sgs cs).take j).map fun b=>a ++ b) ++ [a ++ b]:=by
      rw [List.take_add_one,hb,List.map_append,List.append_assoc]; rfl
     rw [this];unfold txs;rw [List.map_append (l₂:=[a ++ b])];exact ai
    ·intro c o hc;rw [am (ak hc hp)]; exact s6 c o hc
   ·have e:j=(sgs cs).length:=by omega
    subst e;refine .inl ⟨⟨_,SqL.of hl6,by rw [len]; exact Nat.le_refl _⟩,(sgs cs).length - (i + 1),by omega,hlt,rfl,⟨_,_,rfl⟩,?_,s6⟩;rw [oN ha];rw [List.take_length] at hp6;exact hp6
  ·have e:i=(sgs cs).length:=by omega
   subst e;refine .inl ⟨⟨_,SqL.of hl4,by rw [len]; exact Nat.le_refl _⟩,?_⟩;rw [List.take_length] at hp4;have k4:=k3.trans (Kp.same s4);refine ⟨_,rfl,p,Pp,prs (sgs cs),ps,rfl,hp4,k4.lst g5,hg.pnd,hg.psub,Nat.le_trans hg.plen (by decide),fun H5 s5=>⟨_,rfl,aU ?_⟩⟩;have k5:=k4.trans (Kp.same s5);refine ⟨_,rfl,.int lg,1,8,rfl,.int lg,_,rfl,?_⟩;have:inB (.int lg) 1 8=true:=by
    show (decide (1≤lg) && decide (lg≤8))=true;rw [decide_eq_true hg.l1,decide_eq_true hg.l8]; rfl
   rw [this];have sT:Same H1 H5:=((s2.trans s3).trans s4).trans s5;exact aU (q H5 k5 (a1.same sT) (b1.same sT))
end
theorem gI:∀k:Nat,k≤2001→k < big:=fun k hk=>Nat.lt_of_le_of_lt hk (by decide +kernel)
theorem Src.lst {H:Hp} {p:Addr} (s:Src H p):∃xs,H p=some (.lst xs):=by
 obtain ⟨n,d,e,_⟩:=s.ex;exact ⟨_,e⟩
theorem Src.same {H H':Hp} {p:Addr} (h:Src H p) (s:Same H H'):Src H' p:=by
 obtain ⟨n,d,e,r⟩:=h.ex;exact ⟨n,d,s _ _ e,r⟩
theorem PrA.same {H H':Hp} {x:V} (h:PrA H x) (s:Same H H'):PrA H' x:=h.kp (Kp.same s)
theorem PrA.src {H H':Hp} {p:Addr} {x:V} (h:PrA H x) (sr:Src H p) (k:Ext p H H'):PrA H' x:=h.ext sr.lst k
section
variable {P:Program} {w:World} {K:PySem.W.Frag} {mg:Str→Option Value} {base:Heap}
def nk (K:PySem.W.Frag):Sp:=fun vs H Q _=>∃(a:Addr) (ns:List Int) (k:Int),vs=[.ref a,.int k]∧SqL K H a (ns.map V.int)∧0≤k∧∀z:Int,Q (.int z) H
theorem Be:FnScope ["_law_script","_law_k"] ["_law_script","_law_k"] (af lO):=⟨rfl,rfl,rfl,by decide +kernel,rfl,by decide +kernel,by decide +kernel⟩
theorem xb {f:Addr} {fd:FuncData} (F:FunG K "_law_cell" "_law_cell" lO .none f fd) (B:Bl mg):FnOk P w K mg base (CXE P w) 1 f fd ["_law_script","_law_k"] (nk K):=by
 refine F.zokN Be (fun vs H Q E h=>?_) (fun cdv A outer s H vs Q E hr h=>?_)
 ·obtain ⟨a,ns,k,rfl,_⟩:=h;rfl
 ·obtain ⟨a,ns,k,rfl,ha,k0,q⟩:=h;refine ⟨_,ae (aH (aA lf (zpv 1) (au aN (by rfl) B.len PySem.boot_len (ac (zpv 0) aa)) (aG _)) (ah (ay (aJ bi (zpv 0) (zpv 1) (fun _ _=>rfl)))) az)
   (ah (ay ag)),?_⟩
  refine ⟨_,rfl,_,rfl,a,_,rfl,.inl ha,_,_,rfl,rfl,_,rfl,?_⟩;refine bE (fun e=>?_) (fun _=>q 0);have lt:=of_decide_eq_true e;obtain ⟨n,rfl⟩:=Int.eq_ofNat_of_zero_le k0;rw [List.length_map] at lt;have hn:n < ns.length:=by omega
  refine ⟨_,rfl,_,rfl,a,_,_,_,rfl,rfl,ha,cY (v:=.int ns[n]) (by simp [hn]),q _⟩
def qU:Sp:=fun vs H Q _=>∃p:Addr,vs=[.ref p]∧Src H p∧∀x H',PrA H' x→Src H' p→Ext p H H'→Q x H'
theorem scPr:FnScope ["_law_source_here","_law_way","_law_wide","_law_top"] ["_law_source_here"] (af ji):=⟨rfl,rfl,rfl,by decide +kernel,rfl,by decide +kernel,by decide +kernel⟩
theorem uU {f fD fL:Addr} {fd fdD fdL:FuncData} (F:FunG K "_law_price" "_law_price" ji .none f fd)
  (GD:FnOk P w K mg base (CXE P w) 1 fD fdD ["_law_source_here","_law_many"] fQ) (mD:mg "_law_draw" = some (.ref fD)) (kD:PySem.W.keepIn K (.ref fD)=true) (bD:Binds K fdD ["_law_source_here","_law_many"] [])
  (GL:FnOk P w K mg base (CXE P w) 1 fL fdL ["_law_top","_law_bottom"] yd) (mL:mg "_law_lowest" = some (.ref fL)) (kL:PySem.W.keepIn K (.ref fL)=true) (bL:Binds K fdL ["_law_top","_law_bottom"] []) :
  FnOk P w K mg base (CXE P w) 2 f fd ["_law_source_here"] qU:=by
 refine F.zokN scPr (fun vs H Q E h=>?_) (fun cdv A outer s H vs Q E hr h=>?_)
 ·obtain ⟨p,rfl,_⟩:=h;rfl
 ·obtain ⟨p,rfl,sr,q⟩:=h;refine ⟨_,ae (ax (i:=1) scPr.nd rfl (Or.inl rfl) (aj GD hr (by rfl) mD kD bD .nil aw (ac (zpv 0) (aM ag aa))))
   (ae (ax (i:=2) scPr.nd rfl (Or.inl rfl) (aJ bi (aO (aM ag (aM ag (aM ag (aM ag (cT (aS ip ag (aS tW ag ag)) aa)))))) (zpv 1) (fun _ _=>rfl)))
   (ae (ax (i:=3) scPr.nd rfl (Or.inl rfl) (aS cB ag (aj GD hr (by rfl) mD kD bD .nil aw (ac (zpv 0) (ac (zpv 2) aa)))))
   (ae (aH (aA lf (zpv 1) ag (aG _)) (ah (ay (aY (ac (zpv 3) (aM ag aa))))) az)
   (ah (ay (aj GL hr (by rfl) mL kL bL .nil aw (ac (zpv 3) (cT (aS cB ag (aj GD hr (by rfl) mD kD bD .nil aw (ac (zpv 0) (ac (zpv 2) aa)))) aa)))))))),?_⟩
  refine ⟨_,rfl,p,5,rfl,sr,by decide,gI 5 (by decide),fun wy H1 w0 w1 sr1 x1=>?_⟩;refine ⟨_,_,rfl,rfl,⟨by decide,by decide,by decide⟩,_,_,rfl,rfl,.inl ⟨by decide,by decide⟩,by show 5≤sizeLine; decide,fun l hl=>?_⟩;have ee:(9:Int) * 10 ^ (8:Int).toNat=900000000:=by decide
  have sr2:=sr1.new (o:=.lst [.int 5,.int 5,.int 9,.int 9,.int (9 * 10 ^ (8:Int).toNat)]) hl;have E2:Ext p H _:=(Ext.of_eq x1).trans (Ext.new (o:=.lst [.int 5,.int 5,.int 9,.int 9,.int (9 * 10 ^ (8:Int).toNat)]) hl);obtain ⟨wd,hw,wd0,wd1⟩:∃wd:Int,atI [V.int 5,.int 5,.int 9,.int 9,.int (9 * 10 ^ (8:Int).toNat)] wy=some (V.int wd)∧1≤wd∧wd≤900000000:=by
   have five:wy=0∨wy=1∨wy=2∨wy=3∨wy=4:=by omega
   rcases five with rfl | rfl | rfl | rfl | rfl
   ·exact ⟨5,rfl,by decide,by decide⟩
   ·exact ⟨5,rfl,by decide,by decide⟩
   ·exact ⟨9,rfl,by decide,by decide⟩
   ·exact ⟨9,rfl,by decide,by decide⟩
   ·exact ⟨_,rfl,by decide,by decide⟩
  refine ⟨_,rfl,l,_,_,_,rfl,rfl,SqL.of ai,hw,?_⟩;have wb:wd.natAbs < big:=aT (by omega) (by omega);refine ⟨_,rfl,_,rfl,p,wd,rfl,sr2,by omega,wb,fun d H3 d0 d1 sr3 x3=>⟨_,_,rfl,rfl,?_⟩⟩;have E3:=E2.trans (.of_eq x3);refine ⟨_,rfl,_,_,rfl,rfl,_,rfl,bE (fun _=>?_) (fun _=>?_)⟩
  ·refine ⟨_,rfl,by show 2≤sizeLine; decide,fun t ht=>?_⟩;exact q _ _ ⟨t,1 + d,1,rfl,ai,by omega,by decide,by simp,by omega,by decide⟩ (sr3.new ht) (E3.trans (Ext.new ht))
  ·refine ⟨_,rfl,_,rfl,_,rfl,p,wd,rfl,sr3,by omega,wb,fun e H4 e0 e1 sr4 x4=>⟨_,_,rfl,rfl,?_⟩⟩;refine ⟨1 + d,1 + e,rfl,by omega,aT (by omega) (by omega),fun t c' d' ht fr _=>?_⟩;obtain ⟨g,g0,ga,gb⟩:=fr.g;have gp:0 < g:=by
    rcases Int.lt_trichotomy g 0 with z | z | z
    ·exfalso
     have:=Int.mul_neg_of_neg_of_pos z fr.pos;omega
    ·exact absurd z g0
    ·exact z
   have cp:0 < c':=by
    rcases Int.lt_trichotomy c' 0 with z | z | z
    ·exfalso
     have:=Int.mul_neg_of_pos_of_neg gp z;omega
    ·exfalso
     rw [z,Int.mul_zero] at ga; omega
    ·exact z
   have t1:=fr.top;have t2:=fr.bot;have t3:=fr.pos;exact q _ _ ⟨t,c',d',rfl,ai,cp,t3,fr.low,by omega,by omega⟩ (sr4.new ht) ((E3.trans (.of_eq x4)).trans (Ext.new ht))
end
theorem Row.src {H H':Hp} {p:Addr} {x:V} {c:Nat} (h:Row H x c) (sr:Src H p) (k:Ext p H H'):Row H' x c:=by
 obtain ⟨a,q,l,e,ha,hq,hl⟩:=h.ex;obtain ⟨xs,hp⟩:=sr.lst;exact ⟨⟨a,q,l,e,k _ _ (fun z=>by rw [z,hp] at ha; cases ha) ha,hq.src sr k,hl.imp id fun z=>z.src sr k⟩,h.oc⟩
theorem Rows.src {H H':Hp} {p:Addr} {xs:List V} {cs:List Nat} (h:Rows H xs cs) (sr:Src H p) (k:Ext p H H'):Rows H' xs cs:=⟨h.len,fun i x c e1 e2=>(h.row i x c e1 e2).src sr k⟩
theorem Rows.same {H H':Hp} {xs:List V} {cs:List Nat} (h:Rows H xs cs) (s:Same H H'):Rows H' xs cs:=h.kp (Kp.same s)
theorem Row.put {H:Hp} {L:Addr} {x:V} {c:Nat} {ys zs:List V} (h:Row H x c) (hL:H L=some (.lst ys)):Row (upd H L (.lst zs)) x c:=by
 have k:∀{a:Addr} {us:List V},H a=some (.tup us)→upd H L (.lst zs) a=some (.tup us):=fun {a us} e=>by
  rw [am (fun z=>by rw [z,hL] at e; cases e)]; exact e
 have pr:∀{x:V},PrA H x→PrA (upd H L (.lst zs)) x:=fun {x} h=>by
  obtain ⟨a,n,d,e,ha,r⟩:=h.ex;exact ⟨a,n,d,e,k ha,r⟩
 obtain ⟨a,q,l,e,ha,hq,hl⟩:=h.ex;exact ⟨⟨a,q,l,e,k ha,pr hq,hl.imp id pr⟩,h.oc⟩
theorem Rows.put {H:Hp} {L:Addr} {xs:List V} {cs:List Nat} {ys zs:List V} (h:Rows H xs cs) (hL:H L=some (.lst ys)):Rows (upd H L (.lst zs)) xs cs:=⟨h.len,fun i x c e1 e2=>(h.row i x c e1 e2).put hL⟩
theorem Rows.snoc {H:Hp} {xs:List V} {cs:List Nat} {x:V} {c:Nat} (h:Rows H xs cs) (r:Row H x c):Rows H (xs ++ [x]) (cs ++ [c]):=by
 refine ⟨by rw [List.length_append,List.length_append,h.len]; rfl,fun i y d e1 e2=>?_⟩
 by_cases hi:i < xs.length
 ·rw [List.getElem?_append_left hi] at e1;rw [List.getElem?_append_left (by rw [← h.len]; exact hi)] at e2;exact h.row i y d e1 e2
 ·rw [List.getElem?_append_right (by omega)] at e1;rw [List.getElem?_append_right (by rw [← h.len]; omega),← h.len] at e2;have z:i - xs.length=0:=by
   have:=(List.getElem?_eq_some_iff.mp e1).1;simp at this; omega
  rw [z] at e1 e2;cases e1;cases e2;exact r
def cod (st sp:Int) (j:Nat):Nat:=97 + ((st + sp * j) % 26).toNat
def kK (st sp:Int) (k:Nat):List Nat:=(List.range k).map (cod st sp)
theorem sQ (st sp:Int) (k:Nat):kK st sp (k + 1)=kK st sp k ++ [cod st sp k]:=by
 unfold kK;rw [List.range_succ,List.map_append]; rfl
theorem oO (st sp:Int) (k:Nat):(kK st sp k).length=k:=by unfold kK; simp
theorem xc {st sp:Int} (hs:sp=1∨sp=3∨sp=7∨sp=25) {i j:Nat} (hi:i < 6) (hj:j < 6) (h:cod st sp i=cod st sp j):i=j:=by
 unfold cod at h;have e:(st + sp * i) % 26=(st + sp * j) % 26:=by
  have a:=Int.emod_nonneg (st + sp * i) (show (26:Int)≠0 by decide);have b:=Int.emod_nonneg (st + sp * j) (show (26:Int)≠0 by decide);omega
 rcases hs with rfl | rfl | rfl | rfl <;> omega
theorem xf {st sp:Int} (hs:sp=1∨sp=3∨sp=7∨sp=25) {k:Nat} (hk:k≤6):(kK st sp k).Nodup:=by
 unfold kK;unfold List.Nodup;rw [List.pairwise_map];refine List.Pairwise.imp_of_mem (fun {a b} ha hb ne e=>?_) (List.nodup_range (n:=k));have ha':=List.mem_range.mp ha;have hb':=List.mem_range.mp hb;exact ne (xc hs (by omega) (by omega) e)
theorem p7:∀n:Nat,n < 26→letters.cps.toList[n]? = some (97 + n):=by decide +kernel
theorem oP:∀n:Nat,n < 26→occ (97 + n)=true:=by decide +kernel
section
variable {P:Program} {w:World} {K:PySem.W.Frag} {mg:Str→Option Value} {base:Heap}
def oQ:Sp:=fun vs H Q _=>∃(p:Addr) (many:Nat),vs=[.ref p,.int many]∧Src H p∧many≤6∧∀L xs cs H',H L=none→L≠p→H' L=some (.lst xs)→Rows H' xs cs→cs.Nodup→cs.length=many→Src H' p→Ext p H H'→Q (.ref L) H'
theorem scLS:FnScope ["_law_source_here","_law_many","_law_letters","_law_start","_law_step","_law_signs_here","_law_k","_law_price_here","_law_last","_law_way"] ["_law_source_here","_law_many"] (af g9):=⟨rfl,rfl,rfl,by decide +kernel,rfl,by decide +kernel,by decide +kernel⟩
theorem sR {f fD fP:Addr} {fd fdD fdP:FuncData} (F:FunG K "_law_signs" "_law_signs" g9 .none f fd) (B:Bl mg)
  (GD:FnOk P w K mg base (CXE P w) 1 fD fdD ["_law_source_here","_law_many"] fQ) (mD:mg "_law_draw" = some (.ref fD)) (kD:PySem.W.keepIn K (.ref fD)=true) (bD:Binds K fdD ["_law_source_here","_law_many"] [])
  (GP:FnOk P w K mg base (CXE P w) 2 fP fdP ["_law_source_here"] qU) (mP:mg "_law_price" = some (.ref fP)) (kP:PySem.W.keepIn K (.ref fP)=true) (bP:Binds K fdP ["_law_source_here"] []) :
  FnOk P w K mg base (CXE P w) 3 f fd ["_law_source_here","_law_many"] oQ:=by
 refine F.zokN scLS (fun vs H Q E h=>?_) (fun cdv A outer s H vs Q E hr h=>?_)
 ·obtain ⟨p,many,rfl,_⟩:=h;rfl
 ·obtain ⟨p,many,rfl,sr,m6,q⟩:=h;have hr1:Room 1 _:=hr.mono (by decide);refine ⟨_,(ae (ax (i:=2) scLS.nd rfl (Or.inl rfl) cj)
   (ae (ax (i:=3) scLS.nd rfl (Or.inl rfl) (aj GD hr1 (by rfl) mD kD bD .nil aw (ac (zpv 0) (aM ag aa))))
   (ae (ax (i:=4) scLS.nd rfl (Or.inl rfl) (aJ bi (aO (aM ag (aM ag (aM ag (aM ag aa))))) (aj GD hr1 (by rfl) mD kD bD .nil aw (ac (zpv 0) (aM ag aa))) (fun _ _=>rfl)))
   (ae (ax (i:=5) scLS.nd rfl (Or.inl rfl) (aO aa))
   (ae (cE PassesOwn.never rfl (dw (by rfl) B.range (ac (zpv 1) aa)) (aq (i:=6) scLS.nd rfl (Or.inl rfl)) (ae (ax (i:=7) scLS.nd rfl (Or.inl rfl) (aj GP hr (by rfl) mP kP bP .nil aw (ac (zpv 0) aa)))
   (ae (ge (aH (iS (aA ii (zpv 6) ag (aG _)) (iR (aA cz (aj GD hr1 (by rfl) mD kD bD .nil aw (ac (zpv 0) (aM ag aa))) ag (aG _)))).pt (ah (ax (i:=7) scLS.nd rfl (Or.inl rfl) (aJ bj (aJ bi (zpv 5) (aS gz (zpv 6) ag) (fun _ _=>rfl)) ag (fun _ _=>rfl)))) az))
   (ae (ax (i:=8) scLS.nd rfl (Or.inl rfl) (zpv 7))
   (ae (ax (i:=9) scLS.nd rfl (Or.inl rfl) (aj GD hr1 (by rfl) mD kD bD .nil aw (ac (zpv 0) (aM ag aa))))
   (ae (ge (aH (aA cz (zpv 9) ag (aG _)) (ah (ax (i:=8) scLS.nd rfl (Or.inl rfl) hX)) (ah (aH (aA ii (zpv 9) ag (aG _)) (ah (ax (i:=8) scLS.nd rfl (Or.inl rfl) (aj GP hr (by rfl) mP kP bP .nil aw (ac (zpv 0) aa)))) az))))
   (ah (bK (dg PySem.F.plainAttrs_list PySem.F.slot_list_append PySem.F.type_list_append cP (zpv 5)
      (cu (aY (cI (aJ ja (zpv 2) (aS eQ (aS cB (zpv 3) (aS ip (zpv 4) (zpv 6))) ag) (fun _ _=>rfl)) (ac (zpv 7) (ac (zpv 8) aa)))) aa))))))))))
   (ah (ay (zpv 5)))))))),?_⟩
  refine ⟨_,rfl,p,26,rfl,sr,by decide,gI 26 (by decide),fun st H1 st0 st1 sr1 x1=>?_⟩;refine ⟨by show 4≤sizeLine; decide,fun l4 h4=>⟨_,rfl,p,4,rfl,sr1.new h4,by decide,gI 4 (by decide),fun i4 H2 i40 i41 sr2 x2=>?_⟩⟩;have hl4:H2 l4=some (.lst [.int 1,.int 3,.int 7,.int 25]):=(x2 l4 (sr1.ne h4)).trans ai;have E2:Ext p H H2:=((Ext.of_eq x1).trans (Ext.new h4)).trans (.of_eq x2);obtain ⟨sp,hsp,sps⟩:∃sp:Int,atI [V.int 1,V.int 3,V.int 7,V.int 25] i4=some (V.int sp)∧(sp=1∨sp=3∨sp=7∨sp=25):=by
   have four:i4=0∨i4=1∨i4=2∨i4=3:=by omega
   rcases four with rfl | rfl | rfl | rfl
   ·exact ⟨1,rfl,by simp⟩
   ·exact ⟨3,rfl,by simp⟩
   ·exact ⟨7,rfl,by simp⟩
   ·exact ⟨25,rfl,by simp⟩
  have sp0:0 < sp∧sp≤25:=by omega
  refine ⟨l4,_,_,_,rfl,rfl,SqL.of hl4,hsp,by show 0≤sizeLine; decide,fun L hL=>?_⟩;have Lp:L≠p:=sr2.ne hL;have LH:H L=none:=by
   cases e:H L with
   | none=>rfl
   | some o=>
    have:=E2 L o Lp e;rw [hL] at this; cases this
  refine ⟨_,rfl,many,rfl,by omega,by omega,dn (lo:=0) (n:=(many:Int).toNat)
   (fun k σ H3=>∃vk vp vl vw xs,σ=[some (.ref p),some (.int many),some (.str letters),some (.int st),some (.int sp),some (.ref L),vk,vp,vl,vw]∧H3 L=some (.lst xs)∧Rows H3 xs (kK st sp k)∧Src H3 p∧Ext p H H3)
   ⟨_,_,_,_,[],rfl,ai,⟨rfl,fun i x c e=>by simp at e⟩,sr2.new hL,E2.trans (Ext.new hL)⟩ ?_ ?_⟩
  ·rintro k σ H3 hk ⟨vk,vp,vl,vw,xs,rfl,hL3,rows,sr3,E3⟩;have hk':k < many:=by simpa using hk
   have lx:xs.length=k:=by rw [rows.len,oO]
   refine ⟨_,rfl,p,rfl,sr3,fun x H4 px sr4 X4=>?_⟩;have hL4:=X4 _ _ Lp hL3;have rows4:=rows.src sr3 X4;have E4:=E3.trans X4;refine ⟨fun σ' H'=>∃x,σ'=[some (.ref p),some (.int many),some (.str letters),some (.int st),some (.int sp),some (.ref L),some (.int (0 + k)),some x,vl,vw]∧PrA H' x∧H' L=some (.lst xs)∧Rows H' xs (kK st sp k)∧Src H' p∧Ext p H H',?_,?_⟩
   ·refine ⟨_,rfl,_,_,rfl,rfl,_,rfl,?_⟩;refine bE (fun e=>?_) (fun _=>⟨x,rfl,px,hL4,rows4,sr4,E4⟩);have k0:0 < k:=by have:=of_decide_eq_true e; omega
    refine ⟨_,rfl,p,4,rfl,sr4,by decide,gI 4 (by decide),fun d5 H5 _ _ sr5 x5=>⟨rfl,_,rfl,?_⟩⟩;have X5:Ext p H4 H5:=.of_eq x5;have hL5:=X5 _ _ Lp hL4;have rows5:=rows4.src sr4 X5;refine bE (fun _=>?_) (fun _=>⟨x,rfl,px.src sr4 X5,hL5,rows5,sr5,E4.trans X5⟩);have kx:k - 1 < xs.length:=by omega
    obtain ⟨cc,_,row⟩:=rows5.at (List.getElem?_eq_getElem kx);obtain ⟨a,q1,q2,ea,ha,hq1,_⟩:=row.ex;refine ⟨_,rfl,_,rfl,_,_,rfl,rfl,L,_,_,_,rfl,rfl,SqL.of hL5,?_,a,_,_,_,ea,rfl,SqT.of ha,rfl,?_⟩
    ·have:(0:Int) + k - 1=((k - 1:Nat):Int):=by omega
     rw [this];exact cY (List.getElem?_eq_getElem kx)
    ·exact ⟨q1,rfl,hq1,hL5,rows5,sr5,E4.trans X5⟩
   rintro σ1 H6 ⟨x,rfl,px,hL6,rows6,sr6,E6⟩;refine ⟨_,rfl,?_⟩;refine ⟨_,rfl,p,6,rfl,sr6,by decide,gI 6 (by decide),fun wy H7 _ _ sr7 x7=>?_⟩;have X7:Ext p H6 H7:=.of_eq x7;have px7:=px.src sr6 X7;have hL7:=X7 _ _ Lp hL6;have rows7:=rows6.src sr6 X7;have E7:=E6.trans X7;refine ⟨fun σ' H'=>∃l,σ'=[some (.ref p),some (.int many),some (.str letters),some (.int st),some (.int sp),some (.ref L),some (.int (0 + k)),some x,some l,some (.int wy)]∧PrA H' x∧(l = .non∨PrA H' l)∧H' L=some (.lst xs)∧Rows H' xs (kK st sp k)∧Src H' p∧Ext p H H',?_,?_⟩
   ·refine ⟨_,rfl,rfl,_,rfl,bE (fun _=>?_) (fun _=>?_)⟩
    ·exact ⟨.non,rfl,px7,.inl rfl,hL7,rows7,sr7,E7⟩
    ·refine ⟨_,rfl,_,_,rfl,rfl,_,rfl,bE (fun _=>?_) (fun _=>?_)⟩
     ·refine ⟨_,rfl,p,rfl,sr7,fun y H8 py sr8 X8=>?_⟩;exact ⟨y,rfl,px7.src sr7 X8,.inr py,X8 _ _ Lp hL7,rows7.src sr7 X8,sr8,E7.trans X8⟩
     ·exact ⟨x,rfl,px7,.inr px7,hL7,rows7,sr7,E7⟩
   rintro σ2 H9 ⟨la,rfl,px9,pl9,hL9,rows9,sr9,E9⟩;have m0:0≤(st + sp * (0 + (k:Int))) % 26:=Int.emod_nonneg _ (by decide);have m1:(st + sp * (0 + (k:Int))) % 26 < 26:=Int.emod_lt_of_pos _ (by decide);have cc:cod st sp k=97 + ((st + sp * (0 + (k:Int))) % 26).toNat:=by unfold cod; rw [Int.zero_add]
   have hn:((st + sp * (0 + (k:Int))) % 26).toNat < 26:=by omega
   have hat:atI letters.cps.toList ((st + sp * (0 + (k:Int))) % 26)=some (cod st sp k):=by
    have:(st + sp * (0 + (k:Int))) % 26=(((st + sp * (0 + (k:Int))) % 26).toNat:Int):=by omega
    rw [this,cc];exact cY (p7 _ hn)
   refine ⟨_,rfl,.inl ⟨rfl,_,SqL.of hL9⟩,_,rfl,_,rfl,_,rfl,_,rfl,_,_,rfl,rfl,.inl ⟨by omega,by omega⟩,_,_,rfl,rfl,_,_,rfl,rfl,(by show (0:Int) < 26; decide),?_⟩;refine ⟨letters,_,cod st sp k,rfl,rfl,by decide +kernel,hat,_,rfl,_,rfl,by show 3≤sizeLine; decide,fun t ht=>?_⟩;have s10:=aF (o:=.tup [.str (sg1 (cod st sp k)),x,la]) ht;have hL10:=s10 _ _ hL9;have row:Row (upd H9 t (.tup [.str (sg1 (cod st sp k)),x,la])) (.ref t) (cod st sp k):=
    ⟨⟨t,x,la,rfl,ai,px9.same s10,pl9.imp id fun z=>z.same s10⟩,by rw [cc]; exact oP _ hn⟩
   refine ⟨L,_,_,rfl,rfl,hL10,?_,?_⟩
   ·rw [lx];exact Nat.lt_of_lt_of_le (show k < 6 by omega) (by decide)
   refine ⟨_,_,_,_,xs ++ [.ref t],rfl,ai,?_,?_,?_⟩
   ·rw [sQ];exact ((rows9.same s10).snoc row).put hL10
   ·obtain ⟨n,d,e,r⟩:=(sr9.same s10).ex;exact ⟨n,d,by rw [am Lp.symm]; exact e,r⟩
   ·intro b o nb hb;rw [am (ak hb LH)];exact s10 _ _ (E9 b o nb hb)
  ·rintro σ H3 ⟨vk,vp,vl,vw,xs,rfl,hL3,rows,sr3,E3⟩;have e:(many:Int).toNat=many:=by simp
   rw [e] at rows;exact ⟨_,rfl,q L xs _ H3 LH Lp hL3 rows (xf sps m6) (oO _ _ _) sr3 E3⟩
end
theorem oR {H H2 H3:Hp} {p:Addr} (s:Same H H2) (e:Ext p H2 H3) (n:H p=none):Same H H3:=fun b o h=>e b o (ak h n) (s b o h)
structure Md (H H2:Hp) (q:Addr):Prop where
 src:Src H2 q
 ext:Ext q H H2
theorem Md.put {H H2:Hp} {q l:Addr} {o:HO} (h:Md H H2 q) (n:H l=none) (ne:l≠q):Md H (upd H2 l o) q:=by
 refine ⟨?_,fun b u nb hb=>by rw [am (ak hb n)]; exact h.ext b u nb hb⟩;obtain ⟨n',d,e,r⟩:=h.src.ex;exact ⟨n',d,by rw [am ne.symm]; exact e,r⟩
theorem Md.fresh {H H2:Hp} {q l:Addr} (h:Md H H2 q) (n:H2 l=none):H l=none∧l≠q:=by
 have ne:=h.src.ne n;refine ⟨?_,ne⟩;cases e:H l with
 | none=>rfl
 | some o=>
  have:=h.ext l o ne e;rw [n] at this; cases this
theorem Md.draw {H H2 H3:Hp} {q:Addr} (h:Md H H2 q) (s:Src H3 q) (x:∀b,b≠q→H3 b=H2 b):Md H H3 q:=⟨s,h.ext.trans (.of_eq x)⟩
theorem qV {a b c d:Nat} (h:sg1 a ++ sg1 b=sg1 c ++ sg1 d):a=c∧b=d:=by
 have h2:(sg1 a ++ sg1 b:Str).cps=(sg1 c ++ sg1 d:Str).cps:=by rw [h]
 have e:∀x y:Nat,(sg1 x ++ sg1 y:Str).cps = #[x,y]:=fun x y=>rfl;rw [e,e] at h2
 simpa using h2
theorem zu {cs:List Nat} (h:cs.Nodup):(sgs cs).Nodup:=by
 unfold sgs List.Nodup;rw [List.pairwise_map];exact List.Pairwise.imp (fun {a b} ne e=>ne (dM e)) h
theorem zv {cs:List Nat} (h:cs.Nodup):(prs (sgs cs)).Nodup:=by
 unfold prs List.Nodup;rw [List.pairwise_flatMap];constructor
 ·intro a ha;obtain ⟨c,_,rfl⟩:=List.mem_map.mp ha;rw [List.pairwise_map];unfold sgs;rw [List.pairwise_map];exact List.Pairwise.imp (fun {x y} ne e=>ne (qV e).2) h
 ·unfold sgs;rw [List.pairwise_map];refine List.Pairwise.imp (fun {x y} ne u hu v hv e=>?_) h;obtain ⟨b,hb,rfl⟩:=List.mem_map.mp hu;obtain ⟨d,hd,rfl⟩:=List.mem_map.mp hv;obtain ⟨b',_,rfl⟩:=List.mem_map.mp hb;obtain ⟨d',_,rfl⟩:=List.mem_map.mp hd;exact ne (qV e).1
theorem uV {ts:List Str} (h:ts.Nodup):ts.reverse.Nodup:=by
 unfold List.Nodup;rw [List.pairwise_reverse];exact List.Pairwise.imp (fun ne=>Ne.symm ne) h
theorem gJ {ts:List Str} {i:Nat} {x:V} (h:(txs ts)[i]? = some x):∃a,ts[i]? = some a∧x = .str a:=by
 unfold txs at h;rw [List.getElem?_map] at h;obtain ⟨t,h1,h2⟩:=Option.map_eq_some_iff.mp h;exact ⟨t,h1,h2.symm⟩
theorem j8 (ts:List Str) (a:Str):txs ts ++ [V.str a]=txs (ts ++ [a]):=by unfold txs; rw [List.map_append]; rfl
theorem uW {fs ks:List Str} {i:Nat} {a:Str} (h:fs.Sublist (ks.take i)) (e:ks[i]? = some a):(fs ++ [a]).Sublist (ks.take (i + 1)):=by
 rw [List.take_add_one,e];exact List.Sublist.append h (List.Sublist.refl _)
theorem uX {fs ks:List Str} {i:Nat} (h:fs.Sublist (ks.take i)):fs.Sublist (ks.take (i + 1)):=by
 refine h.trans ?_;rw [List.take_add_one];exact List.sublist_append_left _ _
section
variable {P:Program} {w:World} {K:PySem.W.Frag} {mg:Str→Option Value} {base:Heap}
abbrev nmT:List Str:=["_law_script","_law_base","_law_most","_law_longs","_law_source_here","_law_many","_law_signs_here","_law_one","_law_names","_law_longest","_law_rare","_law_firsts","_law_pairs"]
def oS (K:PySem.W.Frag):Sp:=fun vs H Q _=>∃(a lo:Addr) (ns ls:List Int) (b m:Int),vs=[.ref a,.int b,.int m,.ref lo]∧SqL K H a (ns.map V.int)∧0≤b∧b≤900∧2≤m∧m≤6∧SqL K H lo (ls.map V.int)∧(ls.length:Int)=m - 1∧(∀v∈ls,1≤v∧v≤8)∧
 ∀t cs fs ps lg H',H t=none→Tg H' t cs fs ps lg→(cs.length:Int)≤m→(∃v∈ls,lg≤v)→Same H H'→Q (.ref t) H'
theorem scT:FnScope nmT ["_law_script","_law_base","_law_most","_law_longs"] (af dJ):=⟨rfl,rfl,rfl,by decide +kernel,rfl,by decide +kernel,by decide +kernel⟩
theorem sS {f fC fS fD fL:Addr} {fd fdC fdS fdD fdL:FuncData} (F:FunG K "_law_tongue" "_law_tongue" dJ .none f fd) (B:Bl mg)
  (GC:FnOk P w K mg base (CXE P w) 1 fC fdC ["_law_script","_law_k"] (nk K)) (mC:mg "_law_cell" = some (.ref fC)) (kC:PySem.W.keepIn K (.ref fC)=true) (bC:Binds K fdC ["_law_script","_law_k"] [])
  (GS:FnOk P w K mg base (CXE P w) 1 fS fdS ["_law_cell_here","_law_k"] iP) (mS:mg "_law_source" = some (.ref fS)) (kS:PySem.W.keepIn K (.ref fS)=true) (bS:Binds K fdS ["_law_cell_here","_law_k"] [])
  (GD:FnOk P w K mg base (CXE P w) 1 fD fdD ["_law_source_here","_law_many"] fQ) (mD:mg "_law_draw" = some (.ref fD)) (kD:PySem.W.keepIn K (.ref fD)=true) (bD:Binds K fdD ["_law_source_here","_law_many"] [])
  (GL:FnOk P w K mg base (CXE P w) 3 fL fdL ["_law_source_here","_law_many"] oQ) (mL:mg "_law_signs" = some (.ref fL)) (kL:PySem.W.keepIn K (.ref fL)=true) (bL:Binds K fdL ["_law_source_here","_law_many"] []) :
  FnOk P w K mg base (CXE P w) 4 f fd ["_law_script","_law_base","_law_most","_law_longs"] (oS K):=by
 refine F.zokN scT (fun vs H Q E h=>?_) (fun cdv A outer s H vs Q E hr h=>?_)
 ·obtain ⟨a,lo,ns,ls,b,m,rfl,_⟩:=h;rfl
 ·obtain ⟨a,lo,ns,ls,b,m,rfl,ha,b0,b1,m2,m6,hlo,ll,lv,q⟩:=h;have hr1:Room 1 _:=hr.mono (by decide);refine ⟨_,(ae (ax (i:=4) scT.nd rfl (Or.inr rfl) (aj GS hr1 (by rfl) mS kS bS .nil aw (bt (aj GC hr1 (by rfl) mC kC bC .nil aw (ac (zpv 0) (ac (zpv 1) aa))) (ac (zpv 1) aa))))
   (ae (ax (i:=5) scT.nd rfl (Or.inl rfl) (aS cB ag (aj GD hr1 (by rfl) mD kD bD .nil aw (ac (zpv 4) (cT (aS gz (zpv 2) ag) aa)))))
   (ae (ax (i:=6) scT.nd rfl (Or.inl rfl) (aj GL hr (by rfl) mL kL bL .nil aw (ac (zpv 4) (ac (zpv 5) aa))))
   (ae (j3 (i:=8) nmT ["_law_one"] [] (af dJ) rfl rfl rfl ⟨by decide +kernel,by decide +kernel,by decide +kernel,by decide +kernel,by decide +kernel⟩ scT.nd rfl (Or.inl rfl) (aQ (zpv 6))
     (fun s H fp=>aq (i:=0) (show List.Nodup [("_law_one" : Str)] by decide +kernel) rfl (Or.inl rfl)) (fun s H fp=>bM) (fun s H fp=>aJ (dL K rfl) (zpv 0) ag (fun _ _=>rfl)))
   (ae (ax (i:=4) scT.nd rfl (Or.inr rfl) (aj GS hr1 (by rfl) mS kS bS .nil aw (bt (aj GC hr1 (by rfl) mC kC bC .nil aw (ac (zpv 0) (cT (aS cB (zpv 1) ag) aa))) (cT (aS cB (zpv 1) ag) aa))))
   (ae (ax (i:=9) scT.nd rfl (Or.inl rfl) (aS cB ag (aj GD hr1 (by rfl) mD kD bD .nil aw (ac (zpv 4) (cI (aJ bi (zpv 3) (aS gz (zpv 5) ag) (fun _ _=>rfl)) aa)))))
   (ae (ax (i:=10) scT.nd rfl (Or.inr rfl) (aJ bi (aO (aM ag (aM ag (aM ag (aM ag aa))))) (aj GD hr1 (by rfl) mD kD bD .nil aw (ac (zpv 4) (aM ag aa))) (fun _ _=>rfl)))
   (ae (j3 (i:=11) nmT ["_law_sign"] [4] (af dJ) rfl rfl rfl ⟨by decide +kernel,by decide +kernel,by decide +kernel,by decide +kernel,by decide +kernel⟩ scT.nd rfl (Or.inl rfl) (aQ (zpv 8))
     (fun s H fp=>aq (i:=0) (show List.Nodup [("_law_sign" : Str),"_law_source_here"] by decide +kernel) rfl (Or.inl rfl))
     (fun s H fp=>dh (aA cz (aj GD hr1 (by rfl) mD kD bD .nil aw (ac (zpv 1) (aM ag aa))) ag (aG _))) (fun s H fp=>zpv 0))
   (ae (ax (i:=12) scT.nd rfl (Or.inl rfl) (aO aa))
   (ae (cE PassesOwn.never rfl (aQ (zpv 8)) (aq (i:=7) scT.nd rfl (Or.inr rfl))
     (ah (bK (dg PySem.F.plainAttrs_list PySem.F.slot_list_extend PySem.F.type_list_extend jb (zpv 12)
      (gf (j2 nmT ["_law_other"] [4,7,10] (af dJ) rfl rfl rfl ⟨by decide +kernel,by decide +kernel,by decide +kernel,by decide +kernel,by decide +kernel⟩ (aQ (zpv 8))
       (fun s H fp=>aq (i:=0) (show List.Nodup [("_law_other" : Str),"_law_source_here","_law_one","_law_rare"] by decide +kernel) rfl (Or.inl rfl))
       (fun s H fp=>dh (aA cz (aj GD hr1 (by rfl) mD kD bD .nil aw (ac (zpv 1) (ac (zpv 3) aa))) ag (aG _))) (fun s H fp=>aS cM (zpv 2) (zpv 0))) aa)))))
   (ae (ge (aH (aA cz (aj GD hr1 (by rfl) mD kD bD .nil aw (ac (zpv 4) (aM ag aa))) ag (aG _))
     (ae (ax (i:=11) scT.nd rfl (Or.inl rfl) (nh (zpv 11)))
   (ah (ax (i:=12) scT.nd rfl (Or.inl rfl) (nh (zpv 12))))) az))
   (ah (ay (aY (ac (zpv 6) (ac (zpv 11) (ac (zpv 12) (ac (zpv 9) aa)))))))))))))))))),?_⟩
  refine ⟨_,rfl,_,rfl,a,ns,b,rfl,ha,b0,fun z=>⟨_,rfl,z,b,rfl,b0,by omega,fun p H1 hp sr1 x1=>?_⟩⟩;have s1:Same H H1:=fun c o e=>(x1 c (ak e hp)).trans e;refine ⟨_,rfl,_,rfl,_,_,rfl,rfl,p,m - 1,rfl,sr1,by omega,aT (by omega) (by omega),fun d H2 d0 d1 sr2 x2=>⟨_,_,rfl,rfl,?_⟩⟩;have s2:Same H H2:=oR s1 (.of_eq x2) hp;obtain ⟨k,hk⟩:∃k:Nat,(2 + d:Int)=k:=⟨(2 + d).toNat,by omega⟩;refine ⟨_,rfl,_,rfl,p,k,(by show [V.ref p,V.int (2 + d)]=[V.ref p,V.int (k:Int)]; rw [hk]),sr2,by omega,fun L xs cs H3 hL0 Lp hL3 rows3 nd clen sr3 E3=>?_⟩;have s3:Same H H3:=oR s2 E3 hp;refine ⟨_,rfl,L,rfl,⟨_,SqL.of hL3⟩,fun nl hnl=>?_⟩;refine ⟨fun i m σ2 H4=>i≤cs.length∧m=cs.length - i∧(∃v,σ2=[v])∧H4 nl=some (.lst (txs (sgs (cs.take i))))∧Same H3 H4,⟨_,Nat.zero_le _,rfl,⟨_,rfl⟩,ai,aF hnl⟩,?_⟩;rintro i _ σ2 H4 ⟨hi,rfl,⟨v,rfl⟩,hn4,s4⟩;have hL4:=s4 _ _ hL3
  by_cases hlt:i < cs.length
  ·refine .inr ⟨⟨_,_,SqL.of hL4,List.getElem?_eq_getElem (show i < xs.length by rw [rows3.len]; exact hlt)⟩,?_⟩;rintro x H5 ⟨rfl,hx⟩;obtain ⟨cc,hc,row⟩:=rows3.at (hx _ (SqL.of hL4));obtain ⟨a',p',la,rfl,ha',_⟩:=(row.kp (Kp.same s4)).ex;dsimp only [cF];rw [if_pos rfl];refine ⟨_,rfl,a',_,_,_,rfl,rfl,SqT.of ha',rfl,_,hn4,?_,cs.length - (i + 1),by omega,hlt,rfl,⟨_,rfl⟩,?_,?_⟩
   ·unfold txs sgs;rw [List.length_map,List.length_map,List.length_take];exact Nat.lt_of_le_of_lt (show min i cs.length≤6 by omega) (by decide)
   ·have:txs (sgs (cs.take i)) ++ [V.str (sg1 cc)]=txs (sgs (cs.take (i + 1))):=by
     unfold txs sgs;rw [List.take_add_one,hc,List.map_append,List.map_append]; rfl
    rw [← this]; exact ai
   ·intro c o hc;rw [am (ak hc hnl)]; exact s4 c o hc
  have ei:i=cs.length:=by omega
  subst ei;rw [List.take_length] at hn4;refine .inl ⟨⟨_,SqL.of hL4,by rw [rows3.len]; exact Nat.le_refl _⟩,?_⟩;have S4:Same H H4:=s3.trans s4;have rows4:=rows3.same s4;refine ⟨_,rfl,_,rfl,_,_,rfl,rfl,a,ns,b + 1,rfl,S4.seq ha,by omega,fun z2=>⟨_,rfl,_,_,rfl,rfl,z2,b + 1,rfl,by omega,by omega,fun g H5 hg sr5 x5=>?_⟩⟩;have s5:Same H4 H5:=fun c o e=>(x5 c (ak e hg)).trans e;have gn:nl≠g:=ak hn4 hg;have gL:L≠g:=ak hL4 hg;have gH:∀c o,H c=some o→c≠g:=fun c o e=>ak (S4 c o e) hg;have S5:Same H H5:=S4.trans s5;have hL5:=s5 _ _ hL4;have hn5:=s5 _ _ hn4;have rows5:=rows4.same s5;have M5:Md H5 H5 g:=⟨sr5,fun _ _ _ h=>h⟩;have kk:(2 + d:Int) - 2=d:=by omega
  obtain ⟨n2,hn2⟩:∃n2:Nat,d=n2:=⟨d.toNat,by omega⟩;have n2l:n2 < ls.length:=by omega
  have hat:atI (ls.map V.int) ((2 + d:Int) - 2)=some (.int ls[n2]):=by
   rw [kk,hn2];exact cY (by simp [n2l])
  have v18:=lv _ (List.getElem_mem n2l);refine ⟨_,rfl,_,rfl,_,rfl,_,_,rfl,rfl,lo,_,_,_,rfl,rfl,S5.seq hlo,hat,?_⟩;refine ⟨g,ls[n2],rfl,sr5,by omega,aT (by omega) (by omega),fun d6 H6 d60 d61 sr6 x6=>⟨_,_,rfl,rfl,?_⟩⟩;have M6:=M5.draw sr6 x6;refine ⟨by show 4≤sizeLine; decide,fun l7 h7=>?_⟩;obtain ⟨f7,ne7⟩:=M6.fresh h7;have M7:=M6.put (o:=.lst [.int 2,.int 5,.int 9,.int 36]) f7 ne7;refine ⟨_,rfl,g,4,rfl,M7.src,by decide,gI 4 (by decide),fun i8 H8 i80 i81 sr8 x8=>?_⟩;have M8:=M7.draw sr8 x8;have hl8:H8 l7=some (.lst [.int 2,.int 5,.int 9,.int 36]):=(x8 l7 ne7).trans ai;obtain ⟨ra,hra,ra0,ra1⟩:∃ra:Int,atI [V.int 2,V.int 5,V.int 9,V.int 36] i8=some (V.int ra)∧0 < ra∧ra≤36:=by
   have four:i8=0∨i8=1∨i8=2∨i8=3:=by omega
   rcases four with rfl | rfl | rfl | rfl
   ·exact ⟨2,rfl,by decide,by decide⟩
   ·exact ⟨5,rfl,by decide,by decide⟩
   ·exact ⟨9,rfl,by decide,by decide⟩
   ·exact ⟨36,rfl,by decide,by decide⟩
  refine ⟨l7,_,_,_,rfl,rfl,SqL.of hl8,hra,?_⟩;have hn8:=M8.ext _ _ gn hn5;have slen:(sgs cs).length=cs.length:=List.length_map ..;have tlen:(txs (sgs cs)).length=cs.length:=(List.length_map ..).trans slen;refine ⟨_,rfl,nl,rfl,⟨_,SqL.of hn8⟩,fun fl hfl=>?_⟩;obtain ⟨f9,ne9⟩:=M8.fresh hfl;refine ⟨fun i m σ2 H9=>i≤cs.length∧m=cs.length - i∧(∃v,σ2=[v,some (.ref g)])∧(∃fs:List Str,H9 fl=some (.lst (txs fs))∧fs.Sublist ((sgs cs).take i))∧Md H5 H9 g,⟨_,Nat.zero_le _,rfl,⟨_,rfl⟩,⟨[],ai,List.nil_sublist _⟩,M8.put f9 ne9⟩,?_⟩;rintro i _ σ2 H9 ⟨hi,rfl,⟨v,rfl⟩,⟨fs,hf9,sub9⟩,M9⟩;have hn9:=M9.ext _ _ gn hn5
  by_cases hlt:i < cs.length
  ·refine .inr ⟨⟨_,_,SqL.of hn9,List.getElem?_eq_getElem (show i < (txs (sgs cs)).length by rw [tlen]; exact hlt)⟩,?_⟩;rintro x H10 ⟨rfl,hx⟩;obtain ⟨t,ht,rfl⟩:=gJ (hx _ (SqL.of hn9));refine ⟨_,rfl,g,5,rfl,M9.src,by decide,gI 5 (by decide),fun e H11 e0 e1 sr11 x11=>⟨rfl,_,rfl,?_⟩⟩;have M11:=M9.draw sr11 x11;have hf11:=(x11 fl ne9).trans hf9;refine bE (fun _=>?_) (fun _=>⟨cs.length - (i + 1),by omega,hlt,rfl,⟨_,rfl⟩,⟨fs,hf11,uX sub9⟩,M11⟩);refine ⟨_,rfl,_,hf11,?_,cs.length - (i + 1),by omega,hlt,rfl,⟨_,rfl⟩,⟨fs ++ [t],by rw [j8]; exact ai,uW sub9 ht⟩,M11.put f9 ne9⟩;have:=sub9.length_le;unfold txs;rw [List.length_map];rw [List.length_take] at this;exact Nat.lt_of_le_of_lt (show fs.length≤6 by omega) (by decide)
  have ei:i=cs.length:=by omega
  refine .inl ⟨⟨_,SqL.of hn9,by rw [tlen,ei]; exact Nat.le_refl _⟩,?_⟩;have sub9':fs.Sublist (sgs cs):=sub9.trans (List.take_sublist _ _);clear hlt hi ei sub9;refine ⟨by show 0≤sizeLine; decide,fun pl hpl=>?_⟩;obtain ⟨f12,ne12⟩:=M9.fresh hpl;have M12:=M9.put (o:=.lst []) f12 ne12;have fp:fl≠pl:=ak hf9 hpl;refine ⟨_,rfl,nl,rfl,⟨_,SqL.of (M12.ext _ _ gn hn5)⟩,dA (K:=K) (a:=nl) (xs:=txs (sgs cs))
   (fun i σ H13=>(∃v7,σ=[some (.ref a),some (.int b),some (.int m),some (.ref lo),some (.ref g),some (.int (2 + d)),some (.ref L),v7,some (.ref nl),some (.int (1 + d6)),some (.int ra),some (.ref fl),some (.ref pl)])∧
    (∃ps:List Str,H13 pl=some (.lst (txs ps))∧ps.Sublist (((sgs cs).take i).flatMap fun a=>(sgs cs).map fun b=>a ++ b))∧H13 fl=some (.lst (txs fs))∧Md H5 H13 g)
   ⟨⟨_,rfl⟩,⟨[],ai,List.nil_sublist _⟩,by rw [am fp]; exact hf9,M12⟩ ?_ ?_ ?_⟩
  ·rintro i σ H13 _ ⟨_,_,_,M13⟩;exact SqL.of (M13.ext _ _ gn hn5)
  ·rintro i x σ H13 hx ⟨⟨v7,rfl⟩,⟨ps,hp13,sub13⟩,hf13,M13⟩;obtain ⟨t,ht,rfl⟩:=gJ hx;have il:i < cs.length:=by rw [← slen]; exact (List.getElem?_eq_some_iff.mp ht).1
   have hn13:=M13.ext _ _ gn hn5;refine ⟨_,rfl,.inl ⟨rfl,_,SqL.of hp13⟩,_,rfl,nl,rfl,⟨_,SqL.of hn13⟩,fun zl hzl=>?_⟩;obtain ⟨f14,ne14⟩:=M13.fresh hzl;have zp:pl≠zl:=ak hp13 hzl;have zf:fl≠zl:=ak hf13 hzl;refine ⟨fun j m σ2 H14=>j≤cs.length∧m=cs.length - j∧(∃v,σ2=[v,some (.ref g),some (.str t),some (.int ra)])∧(∃zs:List Str,H14 zl=some (.lst (txs zs))∧zs.Sublist (((sgs cs).take j).map fun b=>t ++ b))∧H14 pl=some (.lst (txs ps))∧H14 fl=some (.lst (txs fs))∧Md H5 H14 g,
    ⟨_,Nat.zero_le _,rfl,⟨_,rfl⟩,⟨[],ai,List.nil_sublist _⟩,by rw [am zp]; exact hp13,by rw [am zf]; exact hf13,M13.put f14 ne14⟩,?_⟩
   rintro j _ σ2 H14 ⟨hj,rfl,⟨v,rfl⟩,⟨zs,hz14,sub14⟩,hp14,hf14,M14⟩;have hn14:=M14.ext _ _ gn hn5
   by_cases hlt:j < cs.length
   ·refine .inr ⟨⟨_,_,SqL.of hn14,List.getElem?_eq_getElem (show j < (txs (sgs cs)).length by rw [tlen]; exact hlt)⟩,?_⟩;rintro y H15 ⟨rfl,hy⟩;obtain ⟨u,hu,rfl⟩:=gJ (hy _ (SqL.of hn14));refine ⟨_,rfl,_,rfl,g,ra,rfl,M14.src,ra0,aT ra0 (by omega),fun e H16 e0 e1 sr16 x16=>⟨rfl,_,rfl,?_⟩⟩;have M16:=M14.draw sr16 x16;have hz16:=(x16 zl ne14).trans hz14;have hp16:=(x16 pl ne12).trans hp14;have hf16:=(x16 fl ne9).trans hf14;have step:((sgs cs).take (j + 1)).map (fun b=>t ++ b)=((sgs cs).take j).map (fun b=>t ++ b) ++ [t ++ u]:=by
     rw [List.take_add_one,hu,List.map_append]; rfl
    refine bE (fun _=>?_) (fun _=>⟨cs.length - (j + 1),by omega,hlt,rfl,⟨_,rfl⟩,⟨zs,hz16,sub14.trans (by rw [step]; exact List.sublist_append_left _ _)⟩,hp16,hf16,M16⟩);have one:∀z∈sgs cs,z.length=1:=fun z hz=>by
     obtain ⟨c,_,rfl⟩:=List.mem_map.mp hz;rfl
    refine ⟨_,rfl,_,rfl,t,u,rfl,rfl,?_,_,hz16,?_,cs.length - (j + 1),by omega,hlt,rfl,⟨_,rfl⟩,⟨zs ++ [t ++ u],by rw [← j8]; exact ai,by rw [step]; exact List.Sublist.append sub14 (List.Sublist.refl _)⟩,by rw [am zp]; exact hp16,by rw [am zf]; exact hf16,M16.put f14 ne14⟩
    ·rw [one t (List.mem_of_getElem? ht),one u (List.mem_of_getElem? hu)]; decide
    ·have:=sub14.length_le;unfold txs;rw [List.length_map];rw [List.length_map,List.length_take] at this;exact Nat.lt_of_le_of_lt (show zs.length≤6 by omega) (by decide)
   ·have ej:j=cs.length:=by omega
    refine .inl ⟨⟨_,SqL.of hn14,by rw [tlen,ej]; exact Nat.le_refl _⟩,?_⟩;refine ⟨pl,zl,_,_,rfl,rfl,hp14,hz14,?_,?_⟩
    ·have l1:=sub13.length_le;have l2:=sub14.length_le;rw [j7 _ _ (sgs cs).length (fun a=>by rw [List.length_map]),List.length_take] at l1;rw [List.length_map,List.length_take] at l2;have:min i (sgs cs).length * (sgs cs).length≤6 * 6:=Nat.mul_le_mul (by omega) (by omega);unfold txs;rw [List.length_map,List.length_map];exact Nat.le_trans (show _≤42 by omega) (by decide)
    refine ⟨⟨_,rfl⟩,⟨ps ++ zs,?_,?_⟩,by rw [am fp]; exact hf14,M14.put f12 ne12⟩
    ·have:txs ps ++ txs zs=txs (ps ++ zs):=by unfold txs; rw [List.map_append]
     rw [this]; exact ai
    ·rw [oN ht];exact List.Sublist.append sub13 (sub14.trans (List.Sublist.map _ (List.take_sublist _ _)))
  rintro σ H13 ⟨⟨v7,rfl⟩,⟨ps,hp13,sub13⟩,hf13,M13⟩;rw [tlen,← slen,List.take_length] at sub13;refine ⟨fun σ' H'=>∃fl' pl' fs' ps',σ'=[some (.ref a),some (.int b),some (.int m),some (.ref lo),some (.ref g),some (.int (2 + d)),some (.ref L),v7,some (.ref nl),some (.int (1 + d6)),some (.int ra),some (.ref fl'),some (.ref pl')]∧
    H' fl'=some (.lst (txs fs'))∧H' pl'=some (.lst (txs ps'))∧fs'.Nodup∧(∀f∈fs',f∈sgs cs)∧ps'.Nodup∧(∀p∈ps',p∈prs (sgs cs))∧Md H5 H' g,?_,?_⟩
  ·have fn:fs.Nodup:=(zu nd).sublist sub9';have fm:∀f∈fs,f∈sgs cs:=fun f hf=>sub9'.subset hf;have pn:ps.Nodup:=(zv nd).sublist sub13;have pm:∀p∈ps,p∈prs (sgs cs):=fun p hp=>sub13.subset hp;refine ⟨_,rfl,g,2,rfl,M13.src,by decide,gI 2 (by decide),fun e H14 e0 e1 sr14 x14=>⟨rfl,_,rfl,?_⟩⟩;have M14:=M13.draw sr14 x14;have hp14:=(x14 pl ne12).trans hp13;have hf14:=(x14 fl ne9).trans hf13;refine bE (fun _=>?_) (fun _=>⟨fl,pl,fs,ps,rfl,hf14,hp14,fn,fm,pn,pm,M14⟩);refine ⟨_,rfl,fl,_,rfl,SqL.of hf14,fun fr hfr=>?_⟩;obtain ⟨f15,ne15⟩:=M14.fresh hfr;have hp15:(upd H14 fr (.lst (txs fs).reverse)) pl=some (.lst (txs ps)):=by rw [am (ak hp14 hfr)]; exact hp14
   refine ⟨_,rfl,pl,_,rfl,SqL.of hp15,fun pr hpr=>?_⟩;have M15:=M14.put (o:=.lst (txs fs).reverse) f15 ne15;obtain ⟨f16,ne16⟩:=M15.fresh hpr;have rv:∀ts:List Str,(txs ts).reverse=txs ts.reverse:=fun ts=>by unfold txs; rw [List.map_reverse]
   refine ⟨fr,pr,fs.reverse,ps.reverse,rfl,?_,?_,uV fn,fun f hf=>fm f (List.mem_reverse.mp hf),uV pn,fun p hp=>pm p (List.mem_reverse.mp hp),M15.put f16 ne16⟩
   ·rw [am (ak ai hpr),← rv]; exact ai
   ·rw [← rv]; exact ai
  rintro σ1 H14 ⟨fl',pl',fs',ps',rfl,hf14,hp14,fn,fm,pn,pm,M14⟩;refine ⟨_,rfl,_,rfl,_,rfl,_,rfl,by show 4≤sizeLine; decide,fun t ht=>?_⟩;have s15:=aF (o:=.tup [.ref L,.ref fl',.ref pl',.int (1 + d6)]) ht;have S14:Same H H14:=fun c o e=>M14.ext c o (gH c o e) (S5 c o e);have hL14:=M14.ext _ _ gL hL5;have rows14:Rows H14 xs cs:=rows5.src sr5 M14.ext;refine q t cs fs' ps' (1 + d6) _ ?_ ⟨⟨L,fl',pl',xs,ai,s15 _ _ hL14,rows14.same s15,s15 _ _ hf14,s15 _ _ hp14⟩,nd,by omega,by omega,fn,fm,pn,pm,by omega,by omega⟩ (by omega) ⟨ls[n2],List.getElem_mem n2l,by omega⟩ (S14.trans s15);cases e:H t with
  | none=>rfl
  | some o=>
   have:=S14 t o e;rw [ht] at this; cases this
end
end G1
namespace L2
open PySem
theorem boot_max:bootBuiltins "max" = some (.builtin "max"):=by decide +kernel
theorem boot_min:bootBuiltins "min" = some (.builtin "min"):=by decide +kernel
end L2
namespace G1
open PySem L2 GM
section
variable {P:Program} {w:World} {K:PySem.W.Frag} {mg:Str→Option Value} {base:Heap}
def uY (K:PySem.W.Frag):Sp:=fun vs H Q _=>∃(t S F Pp:Addr) (lg:V) (xs fs ps:List V),vs=[.ref t]∧H t=some (.tup [.ref S,.ref F,.ref Pp,lg])∧H S=some (.lst xs)∧H F=some (.lst fs)∧H Pp=some (.lst ps)∧
 ∀u S' F' P' H',H u=none→H S'=none→H F'=none→H P'=none→H' u=some (.tup [.ref S',.ref F',.ref P',lg])→H' S'=some (.lst xs)→H' F'=some (.lst fs)→H' P'=some (.lst ps)→Same H H'→Q (.ref u) H'
theorem Bf:FnScope ["_law_tongue_here"] ["_law_tongue_here"] (af lQ):=⟨rfl,rfl,rfl,by decide +kernel,rfl,by decide +kernel,by decide +kernel⟩
theorem xh {f:Addr} {fd:FuncData} (F:FunG K "_law_copy" "_law_copy" lQ .none f fd) (B:Bl mg):FnOk P w K mg base (CXE P w) 1 f fd ["_law_tongue_here"] (uY K):=by
 refine F.zokN Bf (fun vs H Q E h=>?_) (fun cdv A outer s H vs Q E hr h=>?_)
 ·obtain ⟨t,S,F',Pp,lg,xs,fs,ps,rfl,_⟩:=h;rfl
 ·obtain ⟨t,S,F',Pp,lg,xs,fs,ps,rfl,ht,hS,hF,hP,q⟩:=h;refine ⟨_,(ah (ay (aY (bt (fV fk (by rfl) B.list boot_list (cI (aJ bj (zpv 0) ag (fun _ _=>rfl)) aa)) (bt (fV fk (by rfl) B.list boot_list (cI (aJ bj (zpv 0) ag (fun _ _=>rfl)) aa))
    (bt (fV fk (by rfl) B.list boot_list (cI (aJ bj (zpv 0) ag (fun _ _=>rfl)) aa)) (cI (aJ bj (zpv 0) ag (fun _ _=>rfl)) aa))))))),?_⟩
  refine ⟨_,rfl,t,_,_,_,rfl,rfl,SqT.of ht,rfl,S,_,rfl,.inl (SqL.of hS),fun l1 h1=>?_⟩;have s1:=aF (o:=.lst xs) h1;refine ⟨_,rfl,t,_,_,_,rfl,rfl,SqT.of (s1 _ _ ht),rfl,F',_,rfl,.inl (SqL.of (s1 _ _ hF)),fun l2 h2=>?_⟩;have s2:=aF (o:=.lst fs) h2;have S2:=s1.trans s2;refine ⟨_,rfl,t,_,_,_,rfl,rfl,SqT.of (S2 _ _ ht),rfl,Pp,_,rfl,.inl (SqL.of (S2 _ _ hP)),fun l3 h3=>?_⟩;have s3:=aF (o:=.lst ps) h3;have S3:=S2.trans s3;refine ⟨_,rfl,t,_,_,_,rfl,rfl,SqT.of (S3 _ _ ht),rfl,by show 4≤sizeLine; decide,fun u hu=>?_⟩;have s4:=aF (o:=.tup [.ref l1,.ref l2,.ref l3,lg]) hu;have back:∀{G:Hp} {l:Addr},Same H G→G l=none→H l=none:=fun {G l} s n=>by
   cases e:H l with
   | none=>rfl
   | some o=>
    have:=s l o e;rw [n] at this; cases this
  exact q u l1 l2 l3 _ (back S3 hu) h1 (back s1 h2) (back S2 h3) ai (s4 _ _ (s3 _ _ (s2 _ _ ai))) (s4 _ _ (s3 _ _ ai)) (s4 _ _ ai) (S3.trans s4)
end
def di (fs ps:List Str) (a s:Str):Bool:=if a = "" then !decide (s∈fs) else !decide (a ++ s∈ps)
def prv (z:Str) (i:Nat):Str:=match i with
 | 0=>""
 | j + 1=>match z.cps[j]? with
  | some c=>sg1 c
  | none=>""
def dO (cs:List Nat) (fs ps:List Str) (z:Str) (i:Nat):Bool:=match z.cps[i]? with
 | some c=>decide (sg1 c∈sgs cs) && di fs ps (prv z i) (sg1 c)
 | none=>true
def stB (cs:List Nat) (fs ps:List Str) (lg:Int):V→Bool
 | .str z=>decide ((z.length:Int)≤lg) && (List.range z.cps.size).all (dO cs fs ps z)
 | _=>false
theorem iT {f:Nat→Bool} {n:Nat} (h:∀j,j < n→f j=true):(List.range n).all f=true:=List.all_eq_true.mpr fun j hj=>h j (List.mem_range.mp hj)
theorem qW {f:Nat→Bool} {n i:Nat} (hi:i < n) (h:f i=false):(List.range n).all f=false:=List.all_eq_false.mpr ⟨i,List.mem_range.mpr hi,by rw [h]; decide⟩
def cS (H:Hp):V→V
 | .ref a=>match H a with
  | some (.tup [_,_,l])=>l
  | _=>.non
 | _=>.non
theorem Row.last {H:Hp} {x:V} {c:Nat} (h:Row H x c):∃a p,x = .ref a∧H a=some (.tup [.str (sg1 c),p,cS H x])∧(cS H x = .non∨PrA H (cS H x)):=by
 obtain ⟨a,p,l,rfl,ha,hp,hl⟩:=h.ex;have e:cS H (.ref a)=l:=by
  show (match H a with | some (.tup [_,_,l])=>l | _=>.non)=l;rw [ha]
 exact ⟨a,p,rfl,by rw [e]; exact ha,by rw [e]; exact hl⟩
theorem Row.last_kp {H H':Hp} {x:V} {c:Nat} (h:Row H x c) (k:Kp H H'):cS H' x=cS H x:=by
 obtain ⟨a,p,rfl,ha,_⟩:=h.last;have h':=k.tup ha;show (match H' a with | some (.tup [_,_,l])=>l | _=>.non)=_;rw [h']
noncomputable def dj (H:Hp) (xs:List V) (cs:List Nat) (c:Nat):Bool:=@decide (∃(i:Nat) (x:V),xs[i]? = some x∧cs[i]? = some c∧cS H x≠.non) (Classical.propDecidable _)
theorem j9 {H:Hp} {xs:List V} {cs:List Nat} {c:Nat} (h:∃(i:Nat) (x:V),xs[i]? = some x∧cs[i]? = some c∧cS H x≠.non):dj H xs cs c=true:=by unfold dj; exact @decide_eq_true _ (Classical.propDecidable _) h
theorem nq {H:Hp} {xs:List V} {cs:List Nat} {c:Nat} (h:¬∃(i:Nat) (x:V),xs[i]? = some x∧cs[i]? = some c∧cS H x≠.non):dj H xs cs c=false:=by unfold dj; exact @decide_eq_false _ (Classical.propDecidable _) h
theorem yh {cs:List Nat} (h:cs.Nodup) {i j c:Nat} (e1:cs[i]? = some c) (e2:cs[j]? = some c):i=j:=by
 obtain ⟨h1,q1⟩:=List.getElem?_eq_some_iff.mp e1;obtain ⟨h2,q2⟩:=List.getElem?_eq_some_iff.mp e2;exact (List.getElem_inj (h₀:=h1) (h₁:=h2) h).mp (by rw [q1,q2])
theorem xi {H:Hp} {xs:List V} {cs:List Nat} {c i:Nat} {x:V} (nd:cs.Nodup) (e1:xs[i]? = some x) (e2:cs[i]? = some c):dj H xs cs c = !decide (cS H x = .non):=by
 by_cases h:cS H x = .non
 ·rw [decide_eq_true h];refine nq ?_;rintro ⟨j,y,f1,f2,ne⟩;have:=yh nd e2 f2;subst this;rw [e1] at f1; cases f1;exact ne h
 ·rw [decide_eq_false h];exact j9 ⟨i,x,e1,e2,h⟩
theorem nr {H H':Hp} {xs:List V} {cs:List Nat} {c:Nat} (r:Rows H xs cs) (k:Kp H H'):dj H' xs cs c=dj H xs cs c:=by
 by_cases h:∃(i:Nat) (x:V),xs[i]? = some x∧cs[i]? = some c∧cS H x≠.non
 ·rw [j9 h];obtain ⟨i,x,e1,e2,ne⟩:=h;exact j9 ⟨i,x,e1,e2,by rw [(r.row i x c e1 e2).last_kp k]; exact ne⟩
 ·rw [nq h];refine nq ?_;rintro ⟨i,x,e1,e2,ne⟩;exact h ⟨i,x,e1,e2,by rw [← (r.row i x c e1 e2).last_kp k]; exact ne⟩
noncomputable def wdB (H:Hp) (xs:List V) (cs:List Nat) (fs ps:List Str) (lg:Int):V→Bool
 | .str z=>stB cs fs ps lg (.str z) && match z.cps[z.cps.size - 1]? with
  | some c=>dj H xs cs c
  | none=>false
 | _=>false
theorem nu {H H':Hp} {xs:List V} {cs:List Nat} {fs ps:List Str} {lg:Int} (x:V) (r:Rows H xs cs) (k:Kp H H'):wdB H' xs cs fs ps lg x=wdB H xs cs fs ps lg x:=by
 cases x with
 | str z=>
  rcases hh:z.cps[z.cps.size - 1]? with _ | c
  ·simp only [wdB,hh]
  ·simp only [wdB,hh,nr r k]
 | _=>rfl
theorem str_nil {z:Str}:z = ""↔z.cps.size=0:=by
 constructor
 ·rintro rfl; rfl
 ·intro h;cases z with
  | mk cps=>
   have:cps = #[]:=Array.size_eq_zero_iff.mp h;rw [this]; rfl
theorem qX (z:Str) (i:Nat):(prv z i).length≤1:=by
 unfold prv;cases i with
 | zero=>exact Nat.zero_le _
 | succ j=>
  show (match z.cps[j]? with | some c=>sg1 c | none=>("" : Str)).length≤1
  split
  ·exact Nat.le_refl _
  ·exact Nat.zero_le _
theorem oU {z:Str} {i c:Nat} (h:z.cps[i]? = some c):prv z (i + 1)=sg1 c:=by
 show (match z.cps[i]? with | some c=>sg1 c | none=>"")=sg1 c;rw [h]
section
variable {P:Program} {w:World} {K:PySem.W.Frag} {mg:Str→Option Value} {base:Heap}
def fc:Sp:=fun vs H Q _=>∃(t:Addr) (cs:List Nat) (fs ps:List Str) (lg:Int) (a s:Str),vs=[.ref t,.str a,.str s]∧Tg H t cs fs ps lg∧a.length≤100∧s.length≤100∧Q (.bl (di fs ps a s)) H
theorem qY {H:Hp} {t:Addr} {cs:List Nat} {fs ps:List Str} {lg:Int} (hg:Tg H t cs fs ps lg):∃S F Pp,H t=some (.tup [.ref S,.ref F,.ref Pp,.int lg])∧H F=some (.lst (txs fs))∧H Pp=some (.lst (txs ps)):=by
 obtain ⟨S,F,Pp,xs,h1,_,_,h4,h5⟩:=hg.ex;exact ⟨S,F,Pp,h1,h4,h5⟩
theorem Bg:FnScope ["_law_tongue_here","_law_ahead","_law_sign"] ["_law_tongue_here","_law_ahead","_law_sign"] (af jj):=⟨rfl,rfl,rfl,by decide +kernel,rfl,by decide +kernel,by decide +kernel⟩
theorem uZ {f:Addr} {fd:FuncData} (F:FunG K "_law_comes" "_law_comes" jj .none f fd):FnOk P w K mg base (CXE P w) 1 f fd ["_law_tongue_here","_law_ahead","_law_sign"] fc:=by
 refine F.zokN Bg (fun vs H Q E h=>?_) (fun cdv A outer s H vs Q E hr h=>?_)
 ·obtain ⟨t,cs,fs,ps,lg,a,s,rfl,_⟩:=h;rfl
 ·obtain ⟨t,cs,fs,ps,lg,a,s',rfl,hg,la,ls,q⟩:=h;refine ⟨_,(ae (aH (aA cz (zpv 1) cj (aG _)) (ah (ay (bx cg (zpv 2) (aJ bj (zpv 0) ag (fun _ _=>rfl)) rfl))) az)
   (ah (ay (bx cg (aS cM (zpv 1) (zpv 2)) (aJ bj (zpv 0) ag (fun _ _=>rfl)) rfl)))),?_⟩
  obtain ⟨S,F',Pp,h1,h4,h5⟩:=qY hg;refine ⟨_,rfl,rfl,_,rfl,bE (fun e=>?_) (fun e=>?_)⟩
  ·have e':V.str a=V.str "":=of_decide_eq_true e;injection e' with e';refine ⟨_,rfl,_,rfl,t,_,_,_,rfl,rfl,SqT.of h1,rfl,F',_,rfl,.inl (SqL.of h4),rfl,cy _,?_⟩;have:di fs ps a s' = !inV (.str s') (txs fs):=by rw [dN]; unfold di; rw [if_pos e']
   rw [this] at q;exact q
  ·have ne:a≠"":=fun z=>e (decide_eq_true (by rw [z]));refine ⟨_,rfl,_,rfl,a,s',rfl,rfl,Nat.le_trans (show _≤200 by omega) (by decide),_,rfl,t,_,_,_,rfl,rfl,SqT.of h1,rfl,Pp,_,rfl,.inl (SqL.of h5),rfl,cy _,?_⟩;have:di fs ps a s' = !inV (.str (a ++ s')) (txs ps):=by rw [dN]; unfold di; rw [if_neg ne]
   rw [this] at q;exact q
end
theorem _root_.L2.Th.kp {H H':Hp} {x:V} (h:Th H x) (k:Kp H H'):Th H' x:=by
 cases h with
 | non=>exact .non
 | bl b=>exact .bl b
 | int i=>exact .int i
 | str x=>exact .str x
 | lst h=>exact .lst (k _ _ h nofun)
 | tup h=>exact .tup (k _ _ h nofun)
 | dK h=>exact .dK (k _ _ h nofun)
structure TgX (H:Hp) (t:Addr) (xs:List V) (cs:List Nat):Prop where
 ex:∃S F Pp lg,H t=some (.tup [.ref S,F,Pp,lg])∧H S=some (.lst xs)
 rows:Rows H xs cs
theorem TgX.kp {H H':Hp} {t:Addr} {xs:List V} {cs:List Nat} (h:TgX H t xs cs) (k:Kp H H'):TgX H' t xs cs:=by
 obtain ⟨S,F,Pp,lg,h1,h2⟩:=h.ex;exact ⟨⟨S,F,Pp,lg,k.tup h1,k.lst h2⟩,h.rows.kp k⟩
theorem Tg.x {H:Hp} {t:Addr} {cs:List Nat} {fs ps:List Str} {lg:Int} (h:Tg H t cs fs ps lg):∃xs,TgX H t xs cs:=by
 obtain ⟨S,F,Pp,xs,h1,h2,h3,_⟩:=h.ex;exact ⟨xs,⟨S,_,_,_,h1,h2⟩,h3⟩
theorem qZ {z:Str} (h:0 < z.cps.size):∃c,z.cps[z.cps.size - 1]? = some c∧atI z.cps.toList (-1)=some c:=by
 have h1:z.cps.size - 1 < z.cps.size:=by omega
 refine ⟨z.cps[z.cps.size - 1],Array.getElem?_eq_getElem h1,?_⟩;unfold atI ixN;have e:z.cps.toList.length=z.cps.size:=by simp
 rw [e,if_neg (by decide),if_pos (by omega)];simp only [Option.bind_some];have:(-1 + (z.cps.size:Int)).toNat=z.cps.size - 1:=by omega
 simp [this,h1]
theorem xj {cs:List Nat} {fs ps:List Str} {lg:Int} {z:Str} {c:Nat} (h:stB cs fs ps lg (.str z)=true) (h0:0 < z.cps.size) (e:z.cps[z.cps.size - 1]? = some c):∃i:Nat,cs[i]? = some c:=by
 have a:(List.range z.cps.size).all (dO cs fs ps z)=true:=by
  have:(decide ((z.length:Int)≤lg) && (List.range z.cps.size).all (dO cs fs ps z))=true:=h;exact (Bool.and_eq_true _ _ ▸ this:_∧_).2
 have o:=List.all_eq_true.mp a (z.cps.size - 1) (List.mem_range.mpr (by omega));unfold dO at o;rw [e] at o;have m:decide (sg1 c∈sgs cs)=true:=(Bool.and_eq_true _ _ ▸ o:_∧_).1;obtain ⟨d,hd,ed⟩:=List.mem_map.mp (of_decide_eq_true m);rw [dM ed] at hd;exact List.getElem?_of_mem hd
theorem rb {z:Str} {k:Nat} (hk:k≤z.cps.size):eR (eR z none (some (k:Int))) (some (-1)) none=prv z k:=by
 have l1:eR z none (some (k:Int))=⟨(z.cps.toList.take k).toArray⟩:=by
  unfold eR;have:HT.sIx z.length z.length (some (k:Int))=k:=by
   rw [HT.sIx_nat];have:z.length=z.cps.size:=rfl;omega
  rw [this];show (⟨((z.cps.toList.drop 0).take (k - 0)).toArray⟩:Str)=_;simp
 rw [l1];cases k with
 | zero=>rfl
 | succ j=>
  have hj:j < z.cps.size:=by omega
  have e:z.cps[j]? = some z.cps[j]:=Array.getElem?_eq_getElem hj;have n:(⟨(z.cps.toList.take (j + 1)).toArray⟩:Str).length=j + 1:=by
   unfold Str.length;simp;omega
  unfold eR;rw [n];have a:HT.sIx (j + 1) 0 (some (-1))=j:=by
   show (if (-1:Int) < 0 then ((-1:Int) + ((j + 1:Nat):Int)).toNat else min (-1:Int).toNat (j + 1))=j;rw [if_pos (by decide)];omega
  rw [a];show (⟨(((z.cps.toList.take (j + 1)).toArray.toList.drop j).take (j + 1 - j)).toArray⟩:Str)=(match z.cps[j]? with | some c=>sg1 c | none=>"");rw [e];have:((z.cps.toList.take (j + 1)).toArray.toList.drop j).take (j + 1 - j)=[z.cps[j]]:=by
   simp only [List.toList_toArray];rw [List.take_add_one];have:z.cps.toList[j]? = some z.cps[j]:=by simp [hj]
   rw [this];have len:(z.cps.toList.take j).length=j:=by simp; omega
   rw [List.drop_append,len];have d0:(z.cps.toList.take j).drop j=[]:=List.drop_eq_nil_of_le (by omega);rw [d0];simp
  rw [this];rfl
theorem yj {H:Hp} {xs:List V} {cs:List Nat} {fs ps:List Str} {lg:Int} {x:V} (h:stB cs fs ps lg x=false):wdB H xs cs fs ps lg x=false:=by
 cases x with
 | str z=>
  rcases hh:z.cps[z.cps.size - 1]? with _ | c <;> simp only [wdB,hh,h,Bool.false_and]
 | _=>rfl
theorem u0 {H:Hp} {xs:List V} {cs:List Nat} {fs ps:List Str} {lg:Int}:wdB H xs cs fs ps lg (.str "")=false:=by
 show (stB cs fs ps lg (.str "") && false)=false;simp
theorem u3 {H:Hp} {xs:List V} {cs:List Nat} {fs ps:List Str} {lg:Int} {z:Str} {c:Nat} (h:stB cs fs ps lg (.str z)=true) (e:z.cps[z.cps.size - 1]? = some c):wdB H xs cs fs ps lg (.str z)=dj H xs cs c:=by
 simp only [wdB,e,h,Bool.true_and]
section
variable {P:Program} {w:World} {K:PySem.W.Frag} {mg:Str→Option Value} {base:Heap}
def ff:Sp:=fun vs H Q _=>∃(t:Addr) (cs:List Nat) (fs ps:List Str) (lg:Int) (x:V),vs=[.ref t,x]∧Tg H t cs fs ps lg∧Th H x∧(∀z,x = .str z→z.length≤sizeLine)∧∀H',Same H H'→Q (.bl (stB cs fs ps lg x)) H'
def jm:Sp:=fun vs H Q _=>∃(t:Addr) (xs:List V) (cs:List Nat) (fs ps:List Str) (lg:Int) (x:V),vs=[.ref t,x]∧Tg H t cs fs ps lg∧TgX H t xs cs∧Th H x∧(∀z,x = .str z→z.length≤sizeLine)∧∀H',Same H H'→Q (.bl (wdB H xs cs fs ps lg x)) H'
theorem p8 {H:Hp} {S:Addr} {xs:List V} {cs:List Nat} {Q:VK} {l:Addr} (hS:H S=some (.lst xs)) (rows:Rows H xs cs) (c6:cs.length≤6) (hl:H l=none) (q:∀H',Same H H'→H' l=some (.lst (txs (sgs cs)))→Q (.ref l) H') (v0:Option V) :
  LCr l (Itl K S) (cF 0) (fun _ H Q=>Q true H) (tOp (yO K) (vW 0) (tC (.int 0))) [v0] (upd H l (.lst [])) Q:=by
 refine ⟨fun i m σ2 H2=>i≤cs.length∧m=cs.length - i∧(∃v,σ2=[v])∧H2 l=some (.lst (txs (sgs (cs.take i))))∧Same H H2,⟨_,Nat.zero_le _,rfl,⟨_,rfl⟩,ai,aF hl⟩,?_⟩;rintro i m σ2 H2 ⟨hi,rfl,⟨v,rfl⟩,hl2,s2⟩;have hS2:=s2 _ _ hS
 by_cases hlt:i < cs.length
 ·refine .inr ⟨⟨_,_,SqL.of hS2,List.getElem?_eq_getElem (show i < xs.length by rw [rows.len]; exact hlt)⟩,?_⟩;rintro x H3 ⟨rfl,hx⟩;obtain ⟨cc,hc,row⟩:=rows.at (hx _ (SqL.of hS2));obtain ⟨a,p,la,rfl,ha,_⟩:=(row.kp (Kp.same s2)).ex;dsimp only [cF];rw [if_pos rfl];refine ⟨_,rfl,a,_,_,_,rfl,rfl,SqT.of ha,rfl,_,hl2,?_,cs.length - (i + 1),by omega,hlt,rfl,⟨_,rfl⟩,?_,?_⟩
  ·unfold txs sgs;rw [List.length_map,List.length_map,List.length_take];exact Nat.lt_of_le_of_lt (show min i cs.length≤6 by omega) (by decide)
  ·have:txs (sgs (cs.take i)) ++ [V.str (sg1 cc)]=txs (sgs (cs.take (i + 1))):=by
    unfold txs sgs;rw [List.take_add_one,hc,List.map_append,List.map_append]; rfl
   rw [← this]; exact ai
  ·intro b o hb;rw [am (ak hb hl)]; exact s2 b o hb
 ·have e:i=cs.length:=by omega
  subst e;rw [List.take_length] at hl2;exact .inl ⟨⟨_,SqL.of hS2,by rw [rows.len]; exact Nat.le_refl _⟩,q H2 s2 hl2⟩
theorem scLst:FnScope ["_law_tongue_here","_law_thing","_law_names","_law_k"] ["_law_tongue_here","_law_thing"] (af ef):=⟨rfl,rfl,rfl,by decide +kernel,rfl,by decide +kernel,by decide +kernel⟩
theorem p9 {f fC:Addr} {fd fdC:FuncData} (F:FunG K "_law_stands" "_law_stands" ef .none f fd) (B:Bl mg)
  (GC:FnOk P w K mg base (CXE P w) 1 fC fdC ["_law_tongue_here","_law_ahead","_law_sign"] fc) (mC:mg "_law_comes" = some (.ref fC)) (kC:PySem.W.keepIn K (.ref fC)=true) (bC:Binds K fdC ["_law_tongue_here","_law_ahead","_law_sign"] []) :
  FnOk P w K mg base (CXE P w) 2 f fd ["_law_tongue_here","_law_thing"] ff:=by
 refine F.zokN scLst (fun vs H Q E h=>?_) (fun cdv A outer s H vs Q E hr h=>?_)
 ·obtain ⟨t,cs,fs,ps,lg,x,rfl,_⟩:=h;rfl
 ·obtain ⟨t,cs,fs,ps,lg,x,rfl,hg,hx,len,q⟩:=h;refine ⟨_,(ae (j3 (i:=2) ["_law_tongue_here","_law_thing","_law_names","_law_k"] ["_law_one"] [] (af ef) rfl rfl rfl ⟨by decide +kernel,by decide +kernel,by decide +kernel,by decide +kernel,by decide +kernel⟩ scLst.nd rfl (Or.inl rfl) (aQ (aJ bj (zpv 0) ag (fun _ _=>rfl)))
     (fun s H fp=>aq (i:=0) (show List.Nodup [("_law_one" : Str)] by decide +kernel) rfl (Or.inl rfl)) (fun s H fp=>bM) (fun s H fp=>aJ (dL K rfl) (zpv 0) ag (fun _ _=>rfl)))
   (ae (aH (be (aR (aI (au aV (by rfl) B.isi aW (ac (zpv 1) (ac (ba (by rfl) B.str boot_str (v:=.ty "str") rfl) aa)))))
     (bh (aA ii (au cD (by rfl) B.len PySem.boot_len (ac (zpv 1) aa)) (aJ bj (zpv 0) ag (fun _ _=>rfl)) (aG _)))).pt (ah (ay bQ)) az)
   (ae (cE PassesOwn.never rfl (dw (by rfl) B.range (bt (au cD (by rfl) B.len PySem.boot_len (ac (zpv 1) aa)) aa)) (aq (i:=3) scLst.nd rfl (Or.inl rfl))
     (ah (aH (be (aA cg (aJ ja (zpv 1) (zpv 3) (fun _ _=>rfl)) (zpv 2) rfl)
       (bh (aR (aI (aj GC hr (by rfl) mC kC bC .nil aw (ac (zpv 0) (cI (ce jX (ce jX (zpv 1) cG (cH (zpv 3))) (cH (j1 i7 ag)) cG) (cI (aJ ja (zpv 1) (zpv 3) (fun _ _=>rfl)) aa)))))))).pt (ah (ay bQ)) az)))
   (ah (ay bQ))))),?_⟩
  obtain ⟨S,F',Pp,xs,h1,h2,h3,h4,h5⟩:=hg.ex;refine ⟨_,rfl,t,_,_,_,rfl,rfl,SqT.of h1,rfl,S,rfl,⟨_,SqL.of h2⟩,fun l hl=>?_⟩;refine p8 h2 h3 hg.c6 hl (fun H1 s1 hl1=>?_) _;have tg1:=hg.kp (Kp.same s1);have hx1:=hx.kp (Kp.same s1);obtain ⟨ty,tyx,e1⟩:=hx1.tyS (K:=K);refine ⟨_,rfl,_,_,ty,isS x,rfl,tyx,.inl ⟨_,rfl,e1⟩,_,rfl,?_⟩;cases x with
  | str z=>
   have lz:=len z rfl;refine aU ⟨_,rfl,z,rfl,lz,_,rfl,t,_,_,_,rfl,rfl,SqT.of (s1 _ _ h1),rfl,_,_,rfl,rfl,_,rfl,?_⟩;refine bE (fun e=>?_) (fun e=>?_)
   ·have g:=of_decide_eq_true e;have:stB cs fs ps lg (.str z)=false:=by
     have:decide ((z.length:Int)≤lg)=false:=decide_eq_false (by omega);simp [stB,this]
    have:=this ▸ q H1 s1;exact this
   ·have le:(z.length:Int)≤lg:=by
     have:¬(lg < (z.length:Int)):=fun y=>e (decide_eq_true y);omega
    have l8:=hg.l8;have zs:z.cps.size=z.length:=rfl;have st:stB cs fs ps lg (.str z)=(List.range z.cps.size).all (dO cs fs ps z):=by simp [stB,le]
    refine ⟨_,rfl,z,rfl,lz,_,rfl,by omega,by omega,dn (lo:=0) (n:=((z.length:Nat):Int).toNat)
     (fun i σ H2=>H2=H1∧(∃v,σ=[some (.ref t),some (.str z),some (.ref l),v])∧∀j,j < i→dO cs fs ps z j=true) ⟨rfl,⟨_,rfl⟩,fun j hj=>absurd hj (Nat.not_lt_zero _)⟩ ?_ ?_⟩
    ·rintro i σ H2 hi ⟨rfl,⟨v,rfl⟩,ok⟩;have ilt:i < z.cps.size:=by
      have:i < z.length:=by simpa using hi
      exact this
     have hc:z.cps[i]? = some z.cps[i]:=Array.getElem?_eq_getElem ilt;generalize z.cps[i]=c at hc;have hat:atI z.cps.toList (0 + (i:Int))=some c:=by
      rw [Int.zero_add];exact cY (by simpa using hc)
     have oka:dO cs fs ps z i=(decide (sg1 c∈sgs cs) && di fs ps (prv z i) (sg1 c)):=by unfold dO; rw [hc]
     have bad:dO cs fs ps z i=false→Q (.bl false) H2:=fun hb=>by
      have:stB cs fs ps lg (.str z)=false:=by rw [st]; exact qW ilt hb
      have:=this ▸ q H2 s1;exact this
     refine ⟨_,rfl,_,rfl,z,_,c,rfl,rfl,lz,hat,_,rfl,l,_,rfl,.inl (SqL.of hl1),rfl,cy _,_,rfl,?_⟩;have m1:inV (.str ⟨#[c]⟩) (txs (sgs cs))=decide (sg1 c∈sgs cs):=dN _ _;refine bE (fun e=>?_) (fun e=>?_)
     ·refine bc (bad ?_);have:(!inV (.str ⟨#[c]⟩) (txs (sgs cs)))=true:=e;rw [m1] at this;rw [oka,show decide (sg1 c∈sgs cs)=false by simpa using this]; rfl
     ·have mem:decide (sg1 c∈sgs cs)=true:=by
       have:¬((!inV (.str ⟨#[c]⟩) (txs (sgs cs)))=true):=e;rw [m1] at this
       simpa using this
      have pc:eR (eR z none (some (0 + (i:Int)))) (some (-1)) none=prv z i:=by rw [Int.zero_add]; exact rb (by omega)
      refine ⟨_,rfl,_,rfl,_,rfl,_,rfl,z,rfl,lz,_,rfl,_,rfl,_,rfl,Nat.le_trans (iN _ _ _) lz,_,rfl,_,rfl,z,_,c,rfl,rfl,lz,hat,t,cs,fs,ps,lg,prv z i,sg1 c,by rw [← pc]; rfl,tg1,Nat.le_trans (qX z i) (by decide),(by show (1:Nat)≤100; decide),_,rfl,?_⟩;cases hcm:di fs ps (prv z i) (sg1 c) with
      | false=>exact bc (bad (by rw [oka,hcm,Bool.and_false]))
      | true=>
       refine aU ⟨rfl,⟨_,rfl⟩,fun j hj=>?_⟩;rcases Nat.lt_or_ge j i with h | h
       ·exact ok j h
       ·have:j=i:=by omega
        subst this;rw [oka,mem,hcm]; rfl
    ·rintro σ H2 ⟨rfl,⟨v,rfl⟩,ok⟩;have e:((z.length:Nat):Int).toNat=z.cps.size:=by simp; rfl
     rw [e] at ok;have:stB cs fs ps lg (.str z)=true:=by rw [st]; exact iT ok
     have:=this ▸ q H2 s1;exact this
  | _=>exact bc (bc (q H1 s1))
end
theorem Ext.same {H H':Hp} {p:Addr} (s:Same H H'):Ext p H H':=fun b o _ e=>s b o e
theorem jF (a b:Str):(a ++ b:Str).cps=a.cps ++ b.cps:=rfl
section
variable {P:Program} {w:World} {K:PySem.W.Frag} {mg:Str→Option Value} {base:Heap}
theorem Bh:FnScope ["_law_tongue_here","_law_thing"] ["_law_tongue_here","_law_thing"] (af eh):=⟨rfl,rfl,rfl,by decide +kernel,rfl,by decide +kernel,by decide +kernel⟩
theorem zw:List.Nodup [("_law_sign" : Str),"_law_price_here","_law_last"]:=by decide +kernel
theorem qa {f fS:Addr} {fd fdS:FuncData} (F:FunG K "_law_is_word" "_law_is_word" eh .none f fd)
  (GS:FnOk P w K mg base (CXE P w) 2 fS fdS ["_law_tongue_here","_law_thing"] ff) (mS:mg "_law_stands" = some (.ref fS)) (kS:PySem.W.keepIn K (.ref fS)=true) (bS:Binds K fdS ["_law_tongue_here","_law_thing"] []) :
  FnOk P w K mg base (CXE P w) 3 f fd ["_law_tongue_here","_law_thing"] jm:=by
 refine F.zokN Bh (fun vs H Q E h=>?_) (fun cdv A outer s H vs Q E hr h=>?_)
 ·obtain ⟨t,xs,cs,fs,ps,lg,x,rfl,_⟩:=h;rfl
 ·obtain ⟨t,xs,cs,fs,ps,lg,x,rfl,hg,hx,tx,len,q⟩:=h;refine ⟨_,(ae (aH (be (aR (aI (aj GS hr (by rfl) mS kS bS .nil aw (ac (zpv 0) (ac (zpv 1) aa))))) (bh (aA cz (zpv 1) cj (aG _)))).pt (ah (ay bQ)) az)
   (ah (ay (bx rV (aJ ja (zpv 1) (j1 i7 ag) (fun _ _=>rfl)) (j2 ["_law_tongue_here","_law_thing"] ["_law_sign","_law_price_here","_law_last"] [] (af eh) rfl rfl rfl ⟨by decide +kernel,by decide +kernel,by decide +kernel,by decide +kernel,by decide +kernel⟩ (aQ (aJ bj (zpv 0) ag (fun _ _=>rfl)))
     (fun s H fp=>eC K 3 rfl rfl (aE (aq (i:=0) zw rfl (Or.inl rfl)) (aE (aq (i:=1) zw rfl (Or.inl rfl)) (aE (aq (i:=2) zw rfl (Or.inl rfl)) bw))))
     (fun s H fp=>dh (aA qA (zpv 2) hX (aG _))) (fun s H fp=>zpv 0)) rfl)))),?_⟩
  refine ⟨_,rfl,_,rfl,t,cs,fs,ps,lg,x,rfl,hg,tx,len,fun H1 s1=>⟨_,rfl,?_⟩⟩;cases hst:stB cs fs ps lg x with
  | false=>
   have:=yj (H:=H) (xs:=xs) hst;have:=this ▸ q H1 s1;exact bc (bc this)
  | true=>
   cases x with
   | str z=>
    refine aU ⟨_,rfl,rfl,_,rfl,bE (fun e=>?_) (fun e=>?_)⟩
    ·have e':V.str z=V.str "":=of_decide_eq_true e;injection e' with e';subst e';have:=(u0 (H:=H) (xs:=xs) (cs:=cs) (fs:=fs) (ps:=ps) (lg:=lg)) ▸ q H1 s1;exact this
    ·have ne:z≠"":=fun y=>e (decide_eq_true (by rw [y]));have z0:0 < z.cps.size:=by
      rcases Nat.eq_zero_or_pos z.cps.size with h | h
      ·exact absurd (str_nil.mpr h) ne
      ·exact h
     obtain ⟨c,hc,hat⟩:=qZ z0;have hx1:=hx.kp (Kp.same s1);have c6:=hg.c6;obtain ⟨S,F',Pp,lgv,h1,h2⟩:=hx1.ex;refine ⟨_,rfl,_,rfl,z,-1,c,rfl,rfl,len z rfl,hat,?_⟩;refine ⟨_,rfl,t,_,_,_,rfl,rfl,SqT.of h1,rfl,S,rfl,⟨_,SqL.of h2⟩,fun l hl=>?_⟩;refine ⟨fun i m σ2 H2=>i≤cs.length∧m=cs.length - i∧(∃v1 v2 v3,σ2=[v1,v2,v3])∧(∃es:List Str,H2 l=some (.lst (txs es))∧es.length≤i∧∀s,s∈es↔∃(j:Nat) (x:V) (d:Nat),j < i∧xs[j]? = some x∧cs[j]? = some d∧cS H1 x≠.non∧s=sg1 d)∧Same H1 H2,
      ⟨_,Nat.zero_le _,rfl,⟨_,_,_,rfl⟩,⟨[],ai,Nat.le_refl _,fun s=>⟨fun h=>(nomatch h),fun ⟨j,_,_,hj,_⟩=>absurd hj (Nat.not_lt_zero _)⟩⟩,aF hl⟩,?_⟩
     rintro i m σ2 H2 ⟨hi,rfl,⟨v1,v2,v3,rfl⟩,⟨es,hl2,el,mem⟩,s2⟩;have hS2:=s2 _ _ h2
     by_cases hlt:i < cs.length
     ·refine .inr ⟨⟨_,_,SqL.of hS2,List.getElem?_eq_getElem (show i < xs.length by rw [hx1.rows.len]; exact hlt)⟩,?_⟩;rintro x H3 ⟨rfl,hxx⟩;have hxi:=hxx _ (SqL.of hS2);obtain ⟨cc,hcc,row⟩:=hx1.rows.at hxi;obtain ⟨a,p,rfl,ha,_⟩:=row.last;refine ⟨a,_,rfl,SqT.of (s2 _ _ ha),rfl,_,_,rfl,_,_,rfl,_,_,rfl,rfl,?_⟩;refine ⟨_,rfl,rfl,_,rfl,bE (fun e=>?_) (fun e=>?_)⟩
      ·have nn:cS H1 (.ref a)≠.non:=fun y=>by
        have:(!decide (cS H1 (.ref a) = .non))=true:=e;rw [decide_eq_true y] at this; cases this
       refine ⟨_,rfl,_,hl2,?_,cs.length - (i + 1),by omega,hlt,rfl,⟨_,_,_,rfl⟩,⟨es ++ [sg1 cc],by rw [← j8]; exact ai,by rw [List.length_append]; simp; omega,fun s=>?_⟩,?_⟩
       ·unfold txs;rw [List.length_map];exact Nat.lt_of_le_of_lt (show es.length≤6 by omega) (by decide)
       ·rw [List.mem_append,mem s,List.mem_singleton];constructor
        ·rintro (⟨j,y,d,hj,r⟩ | rfl)
         ·exact ⟨j,y,d,by omega,r⟩
         ·exact ⟨i,_,cc,by omega,hxi,hcc,nn,rfl⟩
        ·rintro ⟨j,y,d,hj,e1,e2,e3,e4⟩
         by_cases hji:j=i
         ·subst hji;rw [hcc] at e2; cases e2;exact .inr e4
         ·exact .inl ⟨j,y,d,by omega,e1,e2,e3,e4⟩
       ·intro b o hb;rw [am (ak hb hl)]; exact s2 b o hb
      ·have nn:cS H1 (.ref a) = .non:=by
        have:¬((!decide (cS H1 (.ref a) = .non))=true):=e
        simpa using this
       refine ⟨cs.length - (i + 1),by omega,hlt,rfl,⟨_,_,_,rfl⟩,⟨es,hl2,by omega,fun s=>?_⟩,s2⟩;rw [mem s];constructor
       ·rintro ⟨j,y,d,hj,r⟩;exact ⟨j,y,d,by omega,r⟩
       ·rintro ⟨j,y,d,hj,e1,e2,e3,e4⟩
        by_cases hji:j=i
        ·subst hji;rw [hxi] at e1; cases e1;exact absurd nn e3
        ·exact ⟨j,y,d,by omega,e1,e2,e3,e4⟩
     ·have e:i=cs.length:=by omega
      subst e;refine .inl ⟨⟨_,SqL.of hS2,by rw [hx1.rows.len]; exact Nat.le_refl _⟩,l,_,rfl,.inl (SqL.of hl2),rfl,cy _,?_⟩;have m1:inV (.str ⟨#[c]⟩) (txs es)=decide (sg1 c∈es):=dN _ _;have w1:=u3 (H:=H) (xs:=xs) hst hc;have e1:dj H xs cs c=decide (sg1 c∈es):=by
       rw [← nr hx.rows (Kp.same s1)]
       by_cases hh:sg1 c∈es
       ·rw [decide_eq_true hh];obtain ⟨j,y,d,_,f1,f2,f3,f4⟩:=(mem _).mp hh;have:=dM f4;subst this;exact j9 ⟨j,y,f1,f2,f3⟩
       ·rw [decide_eq_false hh];refine nq ?_;rintro ⟨j,y,f1,f2,f3⟩;exact hh ((mem _).mpr ⟨j,y,c,(List.getElem?_eq_some_iff.mp f2).1,f1,f2,f3,rfl⟩)
      rw [w1,e1,← m1] at q;exact q H2 (s1.trans s2)
   | _=>cases hst
end
def fg (t:Str):Str:=eR t (some (-1)) none
def im (t:Str):Nat:=(t.cps[t.cps.size - 1]?).getD 0
theorem xn (z:Str):eR z none (some (z.cps.size:Int))=z:=by
 unfold eR;have:HT.sIx z.length z.length (some (z.cps.size:Int))=z.cps.size:=by
  rw [HT.sIx_nat];have:z.length=z.cps.size:=rfl;omega
 rw [this];show (⟨((z.cps.toList.drop 0).take (z.cps.size - 0)).toArray⟩:Str)=_;rw [List.drop_zero,Nat.sub_zero,List.take_of_length_le (by simp)]
theorem jn (z:Str):fg z=prv z z.cps.size:=by
 have:=rb (z:=z) (k:=z.cps.size) (Nat.le_refl _);rw [xn] at this;exact this
theorem sU:fg "" = "":=by rw [jn]; rfl
theorem dW (t:Str) (c:Nat):(t ++ sg1 c:Str).cps.size=t.cps.size + 1:=by rw [jF,Array.size_append]; rfl
theorem jG (t:Str) (c:Nat):(t ++ sg1 c:Str).cps[t.cps.size]? = some c:=by
 rw [jF,Array.getElem?_append_right (Nat.le_refl _),Nat.sub_self]; rfl
theorem gK (t:Str) (c:Nat) {i:Nat} (h:i < t.cps.size):(t ++ sg1 c:Str).cps[i]? = t.cps[i]?:=by
 rw [jF,Array.getElem?_append_left h]
theorem qc (t:Str) (c:Nat):fg (t ++ sg1 c)=sg1 c:=by rw [jn,dW,oU (jG t c)]
theorem ka (t:Str) (c:Nat):im (t ++ sg1 c)=c:=by
 unfold im;rw [dW,Nat.add_sub_cancel,jG]; rfl
section
variable (cs:List Nat) (cm:Str→Nat→Bool)
def re (t:Str):List Nat:=cs.filter (cm (fg t))
def gq (ts:List Str):List Str:=ts.flatMap fun t=>(re cs cm t).map fun c=>t ++ sg1 c
def lvl:Nat→List Str
 | 0=>[""]
 | k + 1=>gq cs cm (lvl k)
variable {cs cm}
theorem iU {ts:List Str} {z:Str} (h:z∈gq cs cm ts):∃t∈ts,∃c∈cs,cm (fg t) c=true∧z=t ++ sg1 c:=by
 obtain ⟨t,ht,hz⟩:=List.mem_flatMap.mp h;obtain ⟨c,hc,rfl⟩:=List.mem_map.mp hz;obtain ⟨c1,c2⟩:=List.mem_filter.mp hc;exact ⟨t,ht,c,c1,c2,rfl⟩
theorem gN:∀{k:Nat} {z:Str},z∈lvl cs cm k→z.cps.size=k
 | 0,z,h=>by rw [List.mem_singleton.mp h]; rfl
 | k + 1,z,h=>by
  obtain ⟨t,ht,c,_,_,rfl⟩:=iU h;rw [dW,gN ht]
theorem u4 {k:Nat} {z:Str} (h:z∈lvl cs cm (k + 1)):im z∈cs∧fg z=sg1 (im z)∧z.cps[z.cps.size - 1]? = some (im z):=by
 obtain ⟨t,ht,c,hc,_,rfl⟩:=iU h;rw [ka,qc];exact ⟨hc,rfl,by rw [dW,Nat.add_sub_cancel,jG]⟩
theorem nw {m:Nat} (h:cs.length≤m):∀k,(lvl cs cm k).length≤m ^ k
 | 0=>by simp [lvl]
 | k + 1=>by
  have ih:=nw h k;have:(gq cs cm (lvl cs cm k)).length≤(lvl cs cm k).length * m:=by
   unfold gq;generalize lvl cs cm k=L
   induction L with
   | nil=>simp
   | cons t L ih=>
    rw [List.flatMap_cons,List.length_append,List.length_map,List.length_cons,Nat.succ_mul];have:(re cs cm t).length≤m:=Nat.le_trans (List.length_filter_le _ _) h;omega
  show (gq cs cm (lvl cs cm k)).length≤_;rw [Nat.pow_succ];exact Nat.le_trans this (Nat.mul_le_mul_right _ ih)
end
end G1
namespace L2
open PySem PySem.Spec PyProof.Rows
section
variable {X:Cx}
theorem kc:MtR X "list.index" (fun x vs H Q=>∃(l:Addr) (xs:List V) (y:V) (j:Nat),x = .ref l∧vs=[y]∧SqL X.K H l xs∧xs.all cA=true∧cA y=true∧(∃z,xs[j]? = some z∧eqV z y=true)∧(∀(m:Nat) (z:V),m < j→xs[m]? = some z→eqV z y=false)∧Q (.int j) H):=by
 intro pins s σ H x xs v us Q I rx rv h;obtain ⟨l,xs,y,j,rfl,rfl,hq,fx,fy,⟨z,hz,ez⟩,no,q⟩:=h;cases rx;obtain ⟨u,rfl,ru⟩:=vals1 rv;obtain ⟨its,r,p,hsz⟩:=I.list hq;obtain ⟨⟨cls,dd,data,sl⟩,ho,hc,n,hd⟩:=id p.isList;simp only at hc hd;subst hc hd;have jl:j < xs.length:=(List.getElem?_eq_some_iff.mp hz).1;have il:its.length=xs.length:=r.length.symm;obtain ⟨u1,hu1,ru1⟩:=r.get hz;have hj:j < its.toArray.size:=by rw [List.size_toArray]; omega
 refine call_meets PySem.F.slot_list_index ⟨_,ho,rfl⟩ PySem.F.entry_list_index (PySem.F.args_list_index_2 _ _)
  (SeqAt.list_indexAt l its.toArray n dd sl u (eqU y) j hj ?_ ?_ ?_) ⟨ho,fun w hw=>eW ru fy r fx w (by simpa using hw),?_⟩
 ·have:xs.length≤sizeLine:=hsz;have:sizeLine < 2 ^ 63 - 1:=by decide
  omega
 ·show eqU y its[j]=true;have e:its[j]'(by omega)=u1:=by
   have:=List.getElem?_eq_getElem (l:=its) (i:=j) (by omega);rw [hu1] at this;exact (Option.some.inj this).symm
  rw [e,mw ru1 ((List.all_eq_true.mp fx) z (List.mem_of_getElem? hz))];exact ez
 ·intro m hm hlt;have ml:m < xs.length:=by rw [List.size_toArray] at hm; omega
  have hx:xs[m]? = some xs[m]:=List.getElem?_eq_getElem ml;obtain ⟨u2,hu2,ru2⟩:=r.get hx;have e:its[m]'(by omega)=u2:=by
   have:=List.getElem?_eq_getElem (l:=its) (i:=m) (by omega);rw [hu2] at this;exact (Option.some.inj this).symm
  show eqU y its[m]=false;rw [e,mw ru2 ((List.all_eq_true.mp fx) _ (List.mem_of_getElem? hx))];exact no m _ hlt hx
 ·exact ⟨.int j,H,I.tok _,⟨_,rfl⟩,q⟩
end
section
variable {X:Cx} {e tg iter:Expr} {ifs:List Expr} {scope esc:Scope} {pos:Pos} {N os:List Str} {fi:List Nat} {wi:TI} {g:TG} {tt:TT} {tb:Addr→TB} {body:Addr→Env→Sem Fi→Sem Fi} {o0:Addr→HO} {mk:Sem Value} {p:Pos} {elt:Expr} {te:TE}
end
section
variable {X:Cx} {o e f i value:Expr} {td ty tx tv:TE} {p pos apos cpos tpos:Pos}
theorem rf (hu:X.A.units + 1 < cLine) (hi:SPE X i ty) (ho:SPE X o td):SPC X .In i o (Am ty td):=⟨y9 hu hi.out ho.out⟩
theorem oV (hu:X.A.units + 1 < cLine) (ho:SPE X o td) (hi:SPE X i ty) (hv:SPE X value tv) (hs:swapsWith value (some (.Subscript o i tpos)) pos.line X.env=pure false:=by rfl):SPS X (.Assign [.Subscript o i tpos] value pos) (yb td ty tv):=⟨wP hu ho.out hi.out hv.out hs⟩
end
section
variable {X:Cx} {l:Expr} {ta:TA} {p p2 pos pos2:Pos}
theorem sV (hc:X.calm=true) (hg:Gl X "list") (hm:X.mg "list" = none) (hg2:Gl X "enumerate") (hm2:X.mg "enumerate" = none) (ha:SPA X [l] ta) (hs:starEach [l] X.env=[(false,eval l X.env)]:=by rfl)
  (he:starEach [.Call (.Name "enumerate" p2) [l] [] pos2] X.env=(false,eval (.Call (.Name "enumerate" p2) [l] [] pos2) X.env) :: starEach [] X.env:=by rfl) :
  SPE X (.Call (.Name "list" p) [.Call (.Name "enumerate" p2) [l] [] pos2] [] pos) (uK X.K ta):=⟨uL hc hg hm hg2 hm2 ha.out hs he⟩
end
end L2
namespace G1
open PySem L2 GM
abbrev cmT (fs ps:List Str):Str→Nat→Bool:=fun a c=>di fs ps a (sg1 c)
theorem aX (ts:List Str):(txs ts).length=ts.length:=List.length_map ..
abbrev wds (cs:List Nat) (cm:Str→Nat→Bool) (en:Nat→Bool) (k:Nat):List Str:=(lvl cs cm (k + 1)).filter fun t=>en (im t)
theorem AA {cs:List Nat} {cm:Str→Nat→Bool} (h:cs.length≤6) {k:Nat} (hk:k≤8):(lvl cs cm k).length < sizeLine:=
 Nat.lt_of_le_of_lt (nw h k) (Nat.lt_of_le_of_lt (Nat.pow_le_pow_right (by decide) hk) (by decide))
theorem nz {α β:Type} (F:α→List β) (P:List α) (i:Nat):((P.take i).flatMap F).length≤(P.flatMap F).length:=by
 have:P.flatMap F=(P.take i).flatMap F ++ (P.drop i).flatMap F:=by rw [← List.flatMap_append,List.take_append_drop]
 rw [this,List.length_append];omega
def dE (cs:List Nat) (cm:Str→Nat→Bool) (en:Nat→Bool) (n:Nat):List Str:=(List.range n).flatMap (wds cs cm en)
theorem ia (cs:List Nat) (cm:Str→Nat→Bool) (en:Nat→Bool) (n:Nat):dE cs cm en (n + 1)=dE cs cm en n ++ wds cs cm en n:=by
 unfold dE;rw [List.range_succ,List.flatMap_append];simp
theorem sW (cs:List Nat) (cm:Str→Nat→Bool) (en:Nat→Bool) {i n:Nat} (h:i≤n):(dE cs cm en i).length≤(dE cs cm en n).length:=by
 induction n with
 | zero=>
  have:i=0:=by omega
  rw [this]; exact Nat.le_refl _
 | succ n ih=>
  rcases Nat.lt_or_ge n i with z | z
  ·have:i=n + 1:=by omega
   rw [this]; exact Nat.le_refl _
  ·rw [ia,List.length_append];have:=ih z;omega
theorem u5 {cs:List Nat} {fs ps:List Str} {lg:Int}:∀{k:Nat} {z:Str},(k:Int)≤lg→z∈lvl cs (fun a c=>di fs ps a (sg1 c)) k→(List.range z.cps.size).all (dO cs fs ps z)=true
 | 0,z,_,h=>by rw [List.mem_singleton.mp h]; rfl
 | k + 1,z,hk,h=>by
  obtain ⟨t,ht,c,hc,cm,rfl⟩:=iU h;have ih:=u5 (lg:=lg) (k:=k) (by omega) ht;rw [dW];refine iT fun j hj=>?_
  by_cases hl:j < t.cps.size
  ·have o:=List.all_eq_true.mp ih j (List.mem_range.mpr hl);have pe:prv (t ++ sg1 c) j=prv t j:=by
    cases j with
    | zero=>rfl
    | succ i=>
     show (match (t ++ sg1 c:Str).cps[i]? with | some c=>sg1 c | none=>"")=(match t.cps[i]? with | some c=>sg1 c | none=>"");rw [gK t c (by omega)]
   unfold dO at o ⊢;rw [gK t c hl,pe];exact o
  ·have ej:j=t.cps.size:=by omega
   subst ej;unfold dO;rw [jG];have pe:prv (t ++ sg1 c) t.cps.size=fg t:=by
    rw [jn];cases e:t.cps.size with
    | zero=>rfl
    | succ i=>
     show (match (t ++ sg1 c:Str).cps[i]? with | some c=>sg1 c | none=>"")=(match t.cps[i]? with | some c=>sg1 c | none=>"");rw [gK t c (by omega)]
   rw [pe];show (decide (sg1 c∈sgs cs) && di fs ps (fg t) (sg1 c))=true;have m:sg1 c∈sgs cs:=List.mem_map.mpr ⟨c,hc,rfl⟩;rw [cm,decide_eq_true m]; rfl
theorem zx {H:Hp} {xs:List V} {cs:List Nat} {fs ps:List Str} {lg:Int} {k:Nat} {z:Str} (hk:((k + 1:Nat):Int)≤lg) (h:z∈lvl cs (fun a c=>di fs ps a (sg1 c)) (k + 1)):wdB H xs cs fs ps lg (.str z)=dj H xs cs (im z):=by
 refine u3 ?_ (u4 h).2.2;have sz:=gN h;have a:=u5 hk h;show (decide ((z.length:Int)≤lg) && (List.range z.cps.size).all (dO cs fs ps z))=true;have:(z.length:Int)≤lg:=by
  have:z.length=z.cps.size:=rfl;omega
 rw [decide_eq_true this,a]; rfl
def zy:List Str:=["_law_tongue_here","_law_level","_law_found","_law_length","_law_longer","_law_text"]
theorem Bi:List.Nodup [("_law_one" : Str),"_law_tongue_here","_law_text"]:=by decide +kernel
theorem Bj:List.Nodup [("_law_text" : Str),"_law_tongue_here"]:=by decide +kernel
section
variable {P:Program} {w:World} {K:PySem.W.Frag} {mg:Str→Option Value} {base:Heap}
def oW:Sp:=fun vs H Q _=>∃(t:Addr) (cs:List Nat) (fs ps:List Str) (lg:Int) (xs:List V),vs=[.ref t]∧Tg H t cs fs ps lg∧TgX H t xs cs∧(dE cs (cmT fs ps) (dj H xs cs) lg.toNat).length≤2100000∧
 ∀L H',Same H H'→H L=none→H' L=some (.lst (txs (dE cs (cmT fs ps) (dj H xs cs) lg.toNat)))→Q (.ref L) H'
theorem scLWo:FnScope zy ["_law_tongue_here"] (af eI):=⟨rfl,rfl,rfl,by decide +kernel,rfl,by decide +kernel,by decide +kernel⟩
theorem sX {f fC fI:Addr} {fd fdC fdI:FuncData} (F:FunG K "_law_words" "_law_words" eI .none f fd)
  (GC:FnOk P w K mg base (CXE P w) 1 fC fdC ["_law_tongue_here","_law_ahead","_law_sign"] fc) (mC:mg "_law_comes" = some (.ref fC)) (kC:PySem.W.keepIn K (.ref fC)=true) (bC:Binds K fdC ["_law_tongue_here","_law_ahead","_law_sign"] [])
  (GI:FnOk P w K mg base (CXE P w) 3 fI fdI ["_law_tongue_here","_law_thing"] jm) (mI:mg "_law_is_word" = some (.ref fI)) (kI:PySem.W.keepIn K (.ref fI)=true) (bI:Binds K fdI ["_law_tongue_here","_law_thing"] []) (B:Bl mg) :
  FnOk P w K mg base (CXE P w) 4 f fd ["_law_tongue_here"] oW:=by
 refine F.zokN scLWo (fun vs H Q E h=>?_) (fun cdv A outer s H vs Q E hr h=>?_)
 ·obtain ⟨t,cs,fs,ps,lg,xs,rfl,_⟩:=h;rfl
 ·obtain ⟨t,cs,fs,ps,lg,xs,rfl,tg,tx,few,q⟩:=h;have hr1:Room 1 _:=hr.mono (by decide);refine ⟨_,(ae (ax (i:=1) scLWo.nd rfl (Or.inl rfl) (aO (aM cj aa)))
   (ae (ax (i:=2) scLWo.nd rfl (Or.inl rfl) (aO aa))
   (ae (cE PassesOwn.never rfl (dw (by rfl) B.range (cI (aJ bj (zpv 0) ag (fun _ _=>rfl)) aa)) (aq (i:=3) scLWo.nd rfl (Or.inl rfl))
     (ae (ax (i:=4) scLWo.nd rfl (Or.inl rfl) (aO aa))
   (ae (cE PassesOwn.never rfl (aQ (zpv 1)) (aq (i:=5) scLWo.nd rfl (Or.inr rfl))
       (ah (bK (dg PySem.F.plainAttrs_list PySem.F.slot_list_extend PySem.F.type_list_extend jb (zpv 4) (gf (cx zy ["_law_one"] [0,5] (af eI) rfl rfl rfl ⟨by decide +kernel,by decide +kernel,by decide +kernel,by decide +kernel,by decide +kernel⟩ (aQ (aJ bj (zpv 0) ag (fun _ _=>rfl)))
         (fun s H fp=>aq (i:=0) Bi rfl (Or.inl rfl))
         (fun s H fp=>dh (aI (aj GC hr1 (by rfl) mC kC bC .nil aw (ac (zpv 1) (cI (ce jX (zpv 2) (cH (j1 i7 ag)) cG) (cI (aJ (dL K rfl) (zpv 0) ag (fun _ _=>rfl)) aa))))))
         (fun s H fp=>aS cM (zpv 2) (aJ (dL K rfl) (zpv 0) ag (fun _ _=>rfl)))) aa)))))
   (ae (ax (i:=1) scLWo.nd rfl (Or.inl rfl) (zpv 4))
   (ah (bK (dg PySem.F.plainAttrs_list PySem.F.slot_list_extend PySem.F.type_list_extend jb (zpv 2) (gf (cx zy ["_law_text"] [0] (af eI) rfl rfl rfl ⟨by decide +kernel,by decide +kernel,by decide +kernel,by decide +kernel,by decide +kernel⟩ (aQ (zpv 1))
       (fun s H fp=>aq (i:=0) Bj rfl (Or.inl rfl)) (fun s H fp=>dh (aI (aj GI hr (by rfl) mI kI bI .nil aw (ac (zpv 1) (ac (zpv 0) aa))))) (fun s H fp=>zpv 0)) aa))))))))
   (ah (ay (zpv 2)))))),?_⟩
  obtain ⟨S,Fr,Pp,xs',h1,h2,rows,h4,h5⟩:=tg.ex;have c6:=tg.c6;have l1:=tg.l1;have l8:=tg.l8;obtain ⟨S',F',Pp',lg',g1,g2⟩:=tx.ex;rw [h1] at g1;cases g1;rw [h2] at g2;cases g2;refine ⟨by show 1≤sizeLine; decide,fun A0 hA0=>?_⟩;have s1:=aF (o:=.lst [V.str ""]) hA0;refine ⟨by show 0≤sizeLine; decide,fun Fd hFd=>?_⟩;have s2:=aF (o:=.lst []) hFd;have S2:=s1.trans s2;have fF:H Fd=none:=s1.free hFd;have hA2:(upd (upd H A0 (.lst [V.str ""])) Fd (.lst [])) A0=some (.lst (txs (lvl cs (cmT fs ps) 0))):=s2 _ _ ai;have nAF:A0≠Fd:=ak ai hFd;have hF2:(upd (upd H A0 (.lst [V.str ""])) Fd (.lst [])) Fd=some (.lst []):=ai;generalize upd (upd H A0 (.lst [V.str ""])) Fd (.lst [])=H2 at S2 hA2 hF2 ⊢;clear s2;refine ⟨_,rfl,t,_,_,_,rfl,rfl,SqT.of (S2 _ _ h1),rfl,lg,rfl,by omega,by omega,?_⟩;refine dn (lo:=0) (n:=lg.toNat) (fun k σ H3=>∃Lv v3 v4 v5,σ=[some (.ref t),some (.ref Lv),some (.ref Fd),v3,v4,v5]∧Same H H3∧Lv≠Fd∧H3 Lv=some (.lst (txs (lvl cs (cmT fs ps) k)))∧H3 Fd=some (.lst (txs (dE cs (cmT fs ps) (dj H xs cs) k)))) ⟨A0,_,_,_,rfl,S2,nAF,hA2,hF2⟩ ?_ ?_
  ·rintro k σ H3 hk ⟨Lv,v3,v4,v5,rfl,s3,nLF,hL3,hF3⟩;refine ⟨by show 0≤sizeLine; decide,fun Lo hLo=>?_⟩;have s4:=aF (o:=.lst []) hLo;have nLo:Lv≠Lo:=ak hL3 hLo;have k8:k + 1≤8:=by omega
   have stepB:(gq cs (cmT fs ps) (lvl cs (cmT fs ps) k)).length < sizeLine:=AA (cm:=cmT fs ps) c6 k8;refine ⟨_,rfl,Lv,rfl,⟨_,SqL.of (s4 _ _ hL3)⟩,dA (K:=K) (a:=Lv) (xs:=txs (lvl cs (cmT fs ps) k)) (fun i σ H5=>(∃v5,σ=[some (.ref t),some (.ref Lv),some (.ref Fd),some (.int (0 + (k:Int))),some (.ref Lo),v5])∧Same H3 H5∧H5 Lo=some (.lst (txs (gq cs (cmT fs ps) ((lvl cs (cmT fs ps) k).take i))))) ⟨⟨_,rfl⟩,s4,ai⟩ (fun i σ H5 _ p=>SqL.of (p.2.1 _ _ hL3)) ?_ ?_⟩
   ·rintro i x σ H5 hx ⟨⟨v5',rfl⟩,s5,hLo5⟩;obtain ⟨z,hz,rfl⟩:=gJ hx;have zm:z∈lvl cs (cmT fs ps) k:=List.mem_of_getElem? hz;have zl:z.length≤8:=by
     have:z.length=z.cps.size:=rfl;have:=gN zm;omega
    have S5:Same H H5:=s3.trans s5;have tk:(lvl cs (cmT fs ps) k).take (i + 1)=(lvl cs (cmT fs ps) k).take i ++ [z]:=by rw [List.take_add_one,hz]; rfl
    have nx:gq cs (cmT fs ps) ((lvl cs (cmT fs ps) k).take (i + 1))=gq cs (cmT fs ps) ((lvl cs (cmT fs ps) k).take i) ++ (re cs (cmT fs ps) z).map fun c=>z ++ sg1 c:=by
     rw [tk];unfold gq;rw [List.flatMap_append];simp
    refine ⟨_,rfl,.inl ⟨rfl,_,SqL.of hLo5⟩,_,rfl,t,_,_,_,rfl,rfl,SqT.of (S5 _ _ h1),rfl,S,rfl,⟨_,SqL.of (S5 _ _ h2)⟩,fun m hm=>?_⟩;refine de (xs:=xs) (fun j σ H6=>(∃v,σ=[v,some (.ref t),some (.str z)])∧Same H5 H6∧H6 m=some (.lst (txs (((cs.take j).filter (cmT fs ps (fg z))).map fun c=>z ++ sg1 c)))) ⟨⟨_,rfl⟩,aF hm,ai⟩ (fun j σ H6 p=>SqL.of (p.2.1 _ _ (S5 _ _ h2))) ?_ ?_
    ·rintro j y σ H6 C6 hy ⟨⟨v,rfl⟩,s6,hm6⟩ h6;obtain ⟨c,hc,row⟩:=rows.at hy;obtain ⟨a,p',la,rfl,ha,_⟩:=row.ex;have ha6:=s6 _ _ (S5 _ _ ha);have tc:cs.take (j + 1)=cs.take j ++ [c]:=by rw [List.take_add_one,hc]; rfl
     dsimp only [cF];refine ⟨_,rfl,_,rfl,_,rfl,_,rfl,z,rfl,Nat.le_trans zl (by decide),_,rfl,a,_,_,_,rfl,rfl,SqT.of ha6,rfl,t,cs,fs,ps,lg,fg z,sg1 c,rfl,tg.kp (Kp.same (S5.trans s6)),?_,by show (1:Nat)≤100; decide,_,rfl,?_⟩
     ·have:=iN z (some (-1)) none;exact Nat.le_trans this (by omega)
     cases hcm:di fs ps (fg z) (sg1 c) with
     | true=>
      refine bc ⟨_,rfl,_,rfl,a,_,_,_,rfl,rfl,SqT.of ha6,rfl,_,_,rfl,rfl,?_,_,hm6,?_,h6 _ _ ⟨⟨_,rfl⟩,fun b o e=>by rw [am (ak e hm)]; exact s6 _ _ e,?_⟩⟩
      ·have:(sg1 c).length=1:=rfl;exact Nat.le_trans (show z.length + (sg1 c).length≤9 by omega) (by decide)
      ·rw [aX,List.length_map];refine Nat.lt_of_le_of_lt (List.length_filter_le _ _) ?_;rw [List.length_take];exact Nat.lt_of_le_of_lt (show min j cs.length≤6 by omega) (by decide)
      ·rw [ai,tc,List.filter_append,List.filter_cons_of_pos (show cmT fs ps (fg z) c=true from hcm)];unfold txs;simp
     | false=>
      refine aU (h6 _ _ ⟨⟨_,rfl⟩,s6,?_⟩);rw [hm6,tc,List.filter_append,List.filter_cons_of_neg (by rw [show cmT fs ps (fg z) c=false from hcm]; decide)];simp
    ·rintro σ H6 ⟨⟨v,rfl⟩,s6,hm6⟩;rw [rows.len,List.take_length] at hm6;refine ⟨Lo,m,_,_,rfl,rfl,s6 _ _ hLo5,hm6,?_,⟨_,rfl⟩,fun b o e=>by rw [am (ak e hLo)]; exact s6 _ _ (s5 _ _ e),?_⟩
     ·have z1:(gq cs (cmT fs ps) ((lvl cs (cmT fs ps) k).take (i + 1))).length≤(gq cs (cmT fs ps) (lvl cs (cmT fs ps) k)).length:=nz _ _ _;rw [nx,List.length_append] at z1;rw [aX,aX];exact Nat.le_of_lt (Nat.lt_of_le_of_lt z1 stepB)
     ·rw [ai,nx];unfold txs re;rw [List.map_append]
   ·rintro σ H5 ⟨⟨v5',rfl⟩,s5,hLo5⟩;rw [aX,List.take_length] at hLo5;have hLo5':H5 Lo=some (.lst (txs (lvl cs (cmT fs ps) (k + 1)))):=hLo5;have nLoF:Lo≠Fd:=fun z=>by rw [z] at hLo; rw [hLo] at hF3; cases hF3
    have S5:Same H H5:=s3.trans s5;refine ⟨_,rfl,?_⟩;have hF5:=s5 _ _ hF3;refine ⟨_,rfl,.inl ⟨rfl,_,SqL.of hF5⟩,_,rfl,Lo,rfl,⟨_,SqL.of hLo5'⟩,fun m hm=>?_⟩;have hk1:((k + 1:Nat):Int)≤lg:=by omega
    refine de (xs:=txs (lvl cs (cmT fs ps) (k + 1))) (fun j σ H6=>(∃v,σ=[v,some (.ref t)])∧Same H5 H6∧H6 m=some (.lst (txs (((lvl cs (cmT fs ps) (k + 1)).take j).filter fun z=>dj H xs cs (im z))))) ⟨⟨_,rfl⟩,aF hm,ai⟩ (fun j σ H6 p=>SqL.of (p.2.1 _ _ hLo5')) ?_ ?_
    ·rintro j y σ H6 C6 hy ⟨⟨v,rfl⟩,s6,hm6⟩ h6;obtain ⟨z,hz,rfl⟩:=gJ hy;have zm:z∈lvl cs (cmT fs ps) (k + 1):=List.mem_of_getElem? hz;have zl:z.length≤8:=by
      have:z.length=z.cps.size:=rfl;have:=gN zm;omega
     have S6:=S5.trans s6;have wd:wdB H6 xs cs fs ps lg (.str z)=dj H xs cs (im z):=by
      rw [zx hk1 zm,nr tx.rows (Kp.same S6)]
     have tz:(lvl cs (cmT fs ps) (k + 1)).take (j + 1)=(lvl cs (cmT fs ps) (k + 1)).take j ++ [z]:=by rw [List.take_add_one,hz]; rfl
     dsimp only [cF];refine ⟨_,rfl,_,rfl,t,xs,cs,fs,ps,lg,.str z,rfl,tg.kp (Kp.same S6),tx.kp (Kp.same S6),.str z,fun z' e=>by cases e; exact Nat.le_trans zl (by decide),fun H7 s7=>⟨_,rfl,?_⟩⟩;rw [wd];have hm7:=s7 _ _ hm6;cases hen:dj H xs cs (im z) with
     | true=>
      refine bc ⟨_,rfl,_,hm7,?_,h6 _ _ ⟨⟨_,rfl⟩,fun b o e=>by rw [am (ak e hm)]; exact s7 _ _ (s6 _ _ e),?_⟩⟩
      ·rw [aX];refine Nat.lt_of_le_of_lt (List.length_filter_le _ _) (Nat.lt_of_le_of_lt (List.length_take_le' ..) (AA c6 k8))
      ·rw [ai,tz,List.filter_append,List.filter_cons_of_pos (by exact hen)];unfold txs;simp
     | false=>
      refine aU (h6 _ _ ⟨⟨_,rfl⟩,s6.trans s7,?_⟩);rw [hm7,tz,List.filter_append,List.filter_cons_of_neg (by rw [hen]; decide)];simp
    ·rintro σ H6 ⟨⟨v,rfl⟩,s6,hm6⟩;rw [aX,List.take_length] at hm6;refine ⟨Fd,m,_,_,rfl,rfl,s6 _ _ hF5,hm6,?_,Lo,_,_,_,rfl,fun b o e=>by rw [am (ak e fF)]; exact s6 _ _ (S5 _ _ e),nLoF,by rw [am nLoF]; exact s6 _ _ hLo5',?_⟩
     ·rw [aX,aX];have z:=sW cs (cmT fs ps) (dj H xs cs) (show k + 1≤lg.toNat by omega);rw [ia,List.length_append] at z;exact Nat.le_trans z (Nat.le_trans few (by decide))
     ·rw [ai,ia];unfold txs;rw [List.map_append]
  ·rintro σ H3 ⟨Lv,v3,v4,v5,rfl,s3,nLF,hL3,hF3⟩;exact ⟨_,rfl,q Fd H3 s3 fF hF3⟩
end
end G1
namespace L2
open PySem PySem.Spec PyProof.Rows
theorem rg {X:Cx} {e o:Expr} {es:List Expr} {to:TE} {t:TA} {name:Str} {apos cpos:Pos} {T id:String} {r:V→List V→Hp→VK→Prop} (K:PySem.W.Frag) (hK:X.K=K) (pa:PlainAttrs T) (slot:Slot T name id) (hty:typeOf (.builtin id)=pure (.type "method_descriptor")) (hm:MtR X id r) (ho:SPE X o to) (ha:SPA X (e :: es) t) (hbase:attributeBase o name X.env (eval o X.env)=eval o X.env:=by rfl) (hfew:((backTo cpos (starEach (e :: es) X.env)).all (fun x=>!x.1) && (backToKw cpos (keywordEach [] X.env)).all (fun x=>x.1.isSome)
   && decide ((e :: es).length + ([]:List Keyword).length + (if ([]:List Keyword).isEmpty then 0 else 1) < 30))=true:=by rfl) (hline:(apos.endLine == cpos.line)=true:=by rfl) (hs:starEach (e :: es) X.env=(false,eval e X.env) :: starEach es X.env:=by rfl) (hplain:(backTo cpos (starEach es X.env)).any (·.1)=false:=by rfl):SPE X (.Call (.Attribute o name apos) (e :: es) [] cpos) (tBM K T r to t):=by
 subst hK;exact dg pa slot hty hm ho ha hbase hfew hline hs hplain
end L2
namespace G1
open PySem L2 GM
def Lz (z:Str):List Nat:=z.cps.toList
def dm (a b:Str):Bool:=(Lz a).isPrefixOf (Lz b) || (Lz b).isPrefixOf (Lz a)
theorem lV (a b:Str):dm a b=dm b a:=Bool.or_comm _ _
theorem dz (t:Str) (c:Nat):Lz (t ++ sg1 c)=Lz t ++ [c]:=by
 unfold Lz;rw [jF,Array.toList_append];rfl
theorem oX {t z:Str} {w:List Nat} (e:Lz z=Lz t ++ w):dm t z=true:=by
 unfold dm;rw [e];have:(Lz t).isPrefixOf (Lz t ++ w)=true:=List.isPrefixOf_iff_prefix.mpr (List.prefix_append _ _);rw [this];rfl
theorem qd {t y z:Str} {d e:Nat} {w w':List Nat} (ne:d≠e) (ey:Lz y=Lz t ++ d :: w) (ez:Lz z=Lz t ++ e :: w'):dm y z=false:=by
 have h:∀(d e:Nat) (w w':List Nat),d≠e→(Lz t ++ d :: w).isPrefixOf (Lz t ++ e :: w')=false:=fun d e w w' ne=>by
  cases q:(Lz t ++ d :: w).isPrefixOf (Lz t ++ e :: w') with
  | false=>rfl
  | true=>
   have:=List.isPrefixOf_iff_prefix.mp q;rw [List.prefix_append_right_inj,List.cons_prefix_cons] at this;exact absurd this.1 ne
 unfold dm;rw [ey,ez,h d e w w' ne,h e d w' w (Ne.symm ne)];rfl
theorem lW {x y:Str} (h:(Lz y).isPrefixOf (Lz x)=true):Txt.startswith x y=true:=by
 have p:=List.isPrefixOf_iff_prefix.mp h;have e:=List.prefix_iff_eq_take.mp p;have lx:x.cps.toList.length=x.length:=by simp; rfl
 have ly:y.cps.toList.length=y.length:=by simp; rfl
 have le:y.length≤x.length:=by
  have:=p.length_le;unfold Lz at this;omega
 unfold Txt.startswith;rw [PySem.StrLaws.subAt_eq,List.drop_zero];have e2:y.cps.toList=x.cps.toList.take y.length:=by
  unfold Lz at e;rw [ly] at e;exact e
 rw [← e2];simp;omega
theorem nA {x y:Str} (h1:Txt.startswith x y=false) (h2:Txt.startswith y x=false):dm x y=false:=by
 cases h:dm x y with
 | false=>rfl
 | true=>
  unfold dm at h;rcases Bool.or_eq_true _ _ ▸ h with h | h
  ·rw [lW h] at h2; cases h2
  ·rw [lW h] at h1; cases h1
theorem oY (l:List Str):(txs l).all cA=true:=by
 rw [List.all_eq_true];intro x hx;obtain ⟨z,_,rfl⟩:=List.mem_map.mp hx;rfl
theorem u6 (l:List Str):iw (txs l) []=l.isEmpty:=by cases l <;> rfl
theorem iV {cs:List Nat} {cm:Str→Nat→Bool} {en:Nat→Bool} (h:cs.length≤6):∀n,n≤8→(dE cs cm en n).length≤2100000:=by
 have l:∀k,(wds cs cm en k).length≤6 ^ (k + 1):=fun k=>Nat.le_trans (List.length_filter_le _ _) (nw h (k + 1));have s:∀n,(dE cs cm en n).length * 5 + 6≤6 ^ (n + 1):=by
  intro n
  induction n with
  | zero=>simp [dE]
  | succ n ih=>
   rw [ia,List.length_append,Nat.add_mul];have:=l n;rw [Nat.pow_succ 6 (n + 1)];omega
 intro n hn;have a:=s n;have b:6 ^ (n + 1)≤6 ^ 9:=Nat.pow_le_pow_right (by decide) (by omega);have c:(6:Nat) ^ 9=10077696:=by decide
 omega
theorem oZ {cs:List Nat} {cm:Str→Nat→Bool}:∀{k:Nat} {z:Str},z∈lvl cs cm k→∀c∈Lz z,c∈cs
 | 0,z,h,c,hc=>by rw [List.mem_singleton.mp h] at hc; cases hc
 | k + 1,z,h,c,hc=>by
  obtain ⟨t,ht,d,hd,_,rfl⟩:=iU h;have e:Lz (t ++ sg1 d)=Lz t ++ [d]:=dz t d;rw [e] at hc;rcases List.mem_append.mp hc with hc | hc
  ·exact oZ ht c hc
  ·rw [List.mem_singleton.mp hc]; exact hd
theorem lX {cs:List Nat} {cm:Str→Nat→Bool} {en:Nat→Bool} {n:Nat} (hn:n≤8) {z:Str} (h:z∈dE cs cm en n):1≤(Lz z).length∧(Lz z).length≤8∧∀c∈Lz z,c∈cs:=by
 obtain ⟨k,hk,hz⟩:=List.mem_flatMap.mp h;have kl:=List.mem_range.mp hk;have hz:=(List.mem_filter.mp hz).1;have sz:=gN hz;have e:(Lz z).length=z.cps.size:=by unfold Lz; simp
 exact ⟨by omega,by omega,oZ hz⟩
theorem xo {cs:List Nat} {cm:Str→Nat→Bool} {en:Nat→Bool} {n:Nat} (hn:1≤n) {c:Nat} (hc:c∈cs) (h1:cm "" c=true) (h2:en c=true):dE cs cm en n≠[]:=by
 have m:("" ++ sg1 c:Str)∈dE cs cm en n:=by
  refine List.mem_flatMap.mpr ⟨0,List.mem_range.mpr (by omega),List.mem_filter.mpr ⟨?_,?_⟩⟩
  ·refine List.mem_flatMap.mpr ⟨"",List.mem_singleton.mpr rfl,List.mem_map.mpr ⟨c,List.mem_filter.mpr ⟨hc,?_⟩,rfl⟩⟩;rw [sU]; exact h1
  ·rw [ka]; exact h2
 intro z;rw [z] at m;cases m
theorem u7 {K:PySem.W.Frag} {H H':Hp} {a:Addr} {xs:List V} (h:SqL K H a xs) (k:Kp H H'):SqL K H' a xs:=by
 rcases h with (h | ⟨o,h⟩) | h
 ·exact .inl (.inl (k _ _ h nofun))
 ·exact .inl (.inr ⟨o,k _ _ h nofun⟩)
 ·exact .inr h
theorem fh {K:PySem.W.Frag} {H H':Hp} {a:Addr} {xs:List V} (h:SqL K H a xs) (s:Same H H'):SqL K H' a xs:=u7 h (Kp.same s)
structure Book (cs:List Nat) (bk:List Str):Prop where
 ne:bk≠[]
 le:bk.length≤20
 sz:∀z∈bk,1≤(Lz z).length∧(Lz z).length≤8∧∀c∈Lz z,c∈cs
 apart:bk.Pairwise fun y z=>dm y z=false
section
variable {P:Program} {w:World} {K:PySem.W.Frag} {mg:Str→Option Value} {base:Heap}
def lY:Sp:=fun vs H Q _=>∃(A:Addr) (zs:List Str) (x:Str),vs=[.ref A,.str x]∧H A=some (.lst (txs zs))∧zs.length≤100∧x.length≤100∧(∀z∈zs,z.length≤100)∧∀b H',Same H H'→(b=false→∀z∈zs,dm z x=false)→(zs=[]→b=false)→Q (.bl b) H'
theorem Bm:FnScope ["_law_book","_law_word"] ["_law_book","_law_word"] (af eA):=⟨rfl,rfl,rfl,by decide +kernel,rfl,by decide +kernel,by decide +kernel⟩
theorem qe {f:Addr} {fd:FuncData} (F:FunG K "_law_clashes" "_law_clashes" eA .none f fd) (B:Bl mg):FnOk P w K mg base (CXE P w) 1 f fd ["_law_book","_law_word"] lY:=by
 refine F.zokN Bm (fun vs H Q E h=>?_) (fun cdv A outer s H vs Q E hr h=>?_)
 ·obtain ⟨A',zs,x,rfl,_⟩:=h;rfl
 ·obtain ⟨Aa,zs,x,rfl,hA,zl,xl,ze,q⟩:=h;have hu:=Nat.lt_of_succ_lt hr.units1;refine ⟨_,(ah (ay (bx (yU hu) (cx ["_law_book","_law_word"] ["_law_one"] [1] (af eA) rfl rfl rfl ⟨by decide +kernel,by decide +kernel,by decide +kernel,by decide +kernel,by decide +kernel⟩ (aQ (zpv 0)) (fun s H fp=>(aq (i:=0) (show List.Nodup [("_law_one" : Str),"_law_word"] by decide +kernel) rfl (Or.inl rfl))) (fun s H fp=>(dh (SPW.pt (be (aI (rg K rfl PySem.F.plainAttrs_str PySem.F.slot_str_startswith PySem.F.type_str_startswith ik (zpv 0) (ac (zpv 1) aa))) (bh (aI (rg K rfl PySem.F.plainAttrs_str PySem.F.slot_str_startswith PySem.F.type_str_startswith ik (zpv 1) (ac (zpv 0) aa)))))))) (fun s H fp=>(zpv 0))) (aO aa) (aG _)))),?_⟩;refine ⟨_,rfl,Aa,rfl,⟨_,SqL.of hA⟩,fun M hM=>?_⟩;refine de (xs:=txs zs) (fun i σ G=>(∃v,σ=[v,some (.str x)])∧Same H G∧G M=some (.lst (txs ((zs.take i).filter fun z=>Txt.startswith z x || Txt.startswith x z)))) ⟨⟨_,rfl⟩,aF hM,ai⟩ (fun i σ G p=>SqL.of (p.2.1 _ _ hA)) ?_ ?_
  ·rintro i y σ G C hy ⟨⟨v,rfl⟩,sG,hMG⟩ nx;obtain ⟨z,hz,rfl⟩:=gJ hy;have il:=(List.getElem?_eq_some_iff.mp hz).1;have tk:zs.take (i + 1)=zs.take i ++ [z]:=by rw [List.take_add_one,hz]; rfl
   have put:∀G',Same G G'→G' M=some (.lst (txs ((zs.take i).filter fun z=>Txt.startswith z x || Txt.startswith x z)))→(Txt.startswith z x || Txt.startswith x z)=true→(upd G' M (.lst (txs ((zs.take i).filter fun z=>Txt.startswith z x || Txt.startswith x z) ++ [V.str z]))) M=some (.lst (txs ((zs.take (i + 1)).filter fun z=>Txt.startswith z x || Txt.startswith x z))):=fun G' _ _ e=>by
    rw [ai,tk,List.filter_append,List.filter_cons_of_pos (p:=fun z=>Txt.startswith z x || Txt.startswith x z) (a:=z) e];unfold txs;rw [List.map_append]; rfl
   have bd:(txs ((zs.take i).filter fun z=>Txt.startswith z x || Txt.startswith x z)).length < sizeLine:=by
    rw [aX];refine Nat.lt_of_le_of_lt (List.length_filter_le _ _) ?_;rw [List.length_take];exact Nat.lt_of_le_of_lt (show min i zs.length≤100 by omega) (by decide)
   dsimp only [cF];refine ⟨_,rfl,rfl,_,rfl,z,x,rfl,rfl,_,rfl,bE (fun e=>?_) (fun e=>?_)⟩
   ·exact ⟨_,rfl,_,hMG,bd,nx _ _ ⟨⟨_,rfl⟩,fun u o h=>by rw [am (ak h hM)]; exact sG _ _ h,put G (Same.refl _) hMG (by rw [show Txt.startswith z x=true from e]; rfl)⟩⟩
   ·refine ⟨_,rfl,rfl,_,rfl,x,z,rfl,rfl,_,rfl,bE (fun e'=>?_) (fun e'=>?_)⟩
    ·exact ⟨_,rfl,_,hMG,bd,nx _ _ ⟨⟨_,rfl⟩,fun u o h=>by rw [am (ak h hM)]; exact sG _ _ h,put G (Same.refl _) hMG (by rw [show Txt.startswith x z=true from e']; simp)⟩⟩
    ·refine nx _ _ ⟨⟨_,rfl⟩,sG,?_⟩;have e1:Txt.startswith z x=false:=Bool.not_eq_true _ ▸ e;have e2:Txt.startswith x z=false:=Bool.not_eq_true _ ▸ e';rw [tk,List.filter_append,List.filter_cons_of_neg (p:=fun z=>Txt.startswith z x || Txt.startswith x z) (a:=z) (by rw [e1,e2]; decide),List.filter_nil,List.append_nil];exact hMG
  ·rintro σ G ⟨⟨v,rfl⟩,sG,hMG⟩;rw [aX,List.take_length] at hMG;refine ⟨Nat.zero_le _,fun e0 he0=>?_⟩;have s2:=aF (o:=.lst []) he0;refine ⟨M,e0,_,_,rfl,rfl,SqL.of (s2 _ _ hMG),SqL.of ai,oY _,rfl,?_⟩;have e:(if true=true then !iw (txs (zs.filter fun z=>Txt.startswith z x || Txt.startswith x z)) [] else iw (txs (zs.filter fun z=>Txt.startswith z x || Txt.startswith x z)) []) = !(zs.filter fun z=>Txt.startswith z x || Txt.startswith x z).isEmpty:=by rw [u6]; rfl
   rw [e];refine q _ _ (sG.trans s2) (fun hb z hz=>?_) (fun hz=>by rw [hz]; rfl);have hb:(zs.filter fun z=>Txt.startswith z x || Txt.startswith x z)=[]:=by simpa using hb
   have:=List.filter_eq_nil_iff.mp hb z hz;have:(Txt.startswith z x || Txt.startswith x z)=false:=by simpa using this
   rcases (Bool.or_eq_false_iff.mp this) with ⟨a,b⟩;exact nA a b
def rh (K:PySem.W.Frag):Sp:=fun vs H Q _=>∃(a:Addr) (ns:List Int),vs=[.ref a]∧SqL K H a (ns.map V.int)∧∀u t Bk cs fs ps lg bk H',Same H H'→H' u=some (.tup [.ref t,.ref Bk])→Tg H' t cs fs ps lg→H' Bk=some (.lst (txs bk))→H Bk=none→Book cs bk→Q (.ref u) H'
theorem scWo:FnScope ["_law_script","_law_tongue_here","_law_words_here","_law_book","_law_k","_law_source_here","_law_near","_law_word"] ["_law_script"] (af iz):=⟨rfl,rfl,rfl,by decide +kernel,rfl,by decide +kernel,by decide +kernel⟩
theorem u8 {f fC fS fD fT fW fH:Addr} {fd fdC fdS fdD fdT fdW fdH:FuncData} (F:FunG K "_law_world" "_law_world" iz .none f fd) (B:Bl mg)
  (GC:FnOk P w K mg base (CXE P w) 1 fC fdC ["_law_script","_law_k"] (nk K)) (mC:mg "_law_cell" = some (.ref fC)) (kC:PySem.W.keepIn K (.ref fC)=true) (bC:Binds K fdC ["_law_script","_law_k"] [])
  (GS:FnOk P w K mg base (CXE P w) 1 fS fdS ["_law_cell_here","_law_k"] iP) (mS:mg "_law_source" = some (.ref fS)) (kS:PySem.W.keepIn K (.ref fS)=true) (bS:Binds K fdS ["_law_cell_here","_law_k"] [])
  (GD:FnOk P w K mg base (CXE P w) 1 fD fdD ["_law_source_here","_law_many"] fQ) (mD:mg "_law_draw" = some (.ref fD)) (kD:PySem.W.keepIn K (.ref fD)=true) (bD:Binds K fdD ["_law_source_here","_law_many"] [])
  (GT:FnOk P w K mg base (CXE P w) 4 fT fdT ["_law_script","_law_base","_law_most","_law_longs"] (oS K)) (mT:mg "_law_tongue" = some (.ref fT)) (kT:PySem.W.keepIn K (.ref fT)=true) (bT:Binds K fdT ["_law_script","_law_base","_law_most","_law_longs"] [])
  (GW:FnOk P w K mg base (CXE P w) 4 fW fdW ["_law_tongue_here"] oW) (mW:mg "_law_words" = some (.ref fW)) (kW:PySem.W.keepIn K (.ref fW)=true) (bW:Binds K fdW ["_law_tongue_here"] [])
  (GH:FnOk P w K mg base (CXE P w) 1 fH fdH ["_law_book","_law_word"] lY) (mH:mg "_law_clashes" = some (.ref fH)) (kH:PySem.W.keepIn K (.ref fH)=true) (bH:Binds K fdH ["_law_book","_law_word"] []):FnOk P w K mg base (CXE P w) 5 f fd ["_law_script"] (rh K):=by
 refine F.zokN scWo (fun vs H Q E h=>?_) (fun cdv A outer s H vs Q E hr h=>?_)
 ·obtain ⟨a,ns,rfl,_⟩:=h;rfl
 ·obtain ⟨a,ns,rfl,ha,q⟩:=h;have hu:=Nat.lt_of_succ_lt hr.units1;refine ⟨_,(ae (ax (i:=1) scWo.nd rfl (Or.inl rfl) (aj GT hr (by rfl) mT kT bT .nil aw (ac (zpv 0) (aM ag (aM ag (eB (aO (aM ag (aM ag (aM ag aa)))) aa))))))
   (ae (ax (i:=2) scWo.nd rfl (Or.inl rfl) (aj GW hr (by rfl) mW kW bW .nil aw (ac (zpv 1) aa)))
   (ae (aH (aA (yT hu) (zpv 2) (aO aa) (aG _)) (ae (ax (i:=1) scWo.nd rfl (Or.inl rfl) (aY (gf (cx ["_law_script","_law_tongue_here","_law_words_here","_law_book","_law_k","_law_source_here","_law_near","_law_word"] ["_law_sign","_law_price_here","_law_last"] [] (af iz) rfl rfl rfl ⟨by decide +kernel,by decide +kernel,by decide +kernel,by decide +kernel,by decide +kernel⟩ (aQ (aJ bj (zpv 1) ag (fun _ _=>rfl))) (fun s H fp=>(eC K 3 rfl rfl (aE (aq (i:=0) (show List.Nodup [("_law_sign" : Str),"_law_price_here","_law_last"] by decide +kernel) rfl (Or.inl rfl)) (aE (aq (i:=1) (show List.Nodup [("_law_sign" : Str),"_law_price_here","_law_last"] by decide +kernel) rfl (Or.inl rfl)) (aE (aq (i:=2) (show List.Nodup [("_law_sign" : Str),"_law_price_here","_law_last"] by decide +kernel) rfl (Or.inl rfl)) bw))))) (fun s H fp=>bM) (fun s H fp=>(aY (ac (zpv 0) (ac (zpv 1) (ac (zpv 1) aa)))))) (eB (aO aa) (eB (aO aa) (cI (aJ bj (zpv 1) ag (fun _ _=>rfl)) aa))))))
   (ah (ax (i:=2) scWo.nd rfl (Or.inl rfl) (aj GW hr (by rfl) mW kW bW .nil aw (ac (zpv 1) aa))))) az)
   (ae (ax (i:=3) scWo.nd rfl (Or.inl rfl) (aO aa))
   (ae (cE PassesOwn.never rfl (j0 (by rfl) B.range (aM ag (bt (au (lh rfl) (by rfl) B.max boot_max (aM ag (bt (au (i9 rfl) (by rfl) B.min boot_min (bt (au aN (by rfl) B.len PySem.boot_len (ac (zpv 0) aa)) (aM ag aa))) aa))) aa))) (aq (i:=4) scWo.nd rfl (Or.inl rfl))
     (ae (ax (i:=5) scWo.nd rfl (Or.inl rfl) (aj GS (hr.mono (by decide)) (by rfl) mS kS bS .nil aw (bt (aj GC (hr.mono (by decide)) (by rfl) mC kC bC .nil aw (ac (zpv 0) (ac (zpv 4) aa))) (ac (zpv 4) aa))))
   (ae (ax (i:=6) scWo.nd rfl (Or.inl rfl) (aj GD (hr.mono (by decide)) (by rfl) mD kD bD .nil aw (ac (zpv 5) (cT (aS cB ag (aj GD (hr.mono (by decide)) (by rfl) mD kD bD .nil aw (ac (zpv 5) (bt (au aN (by rfl) B.len PySem.boot_len (ac (zpv 2) aa)) aa)))) aa))))
   (ae (ax (i:=7) scWo.nd rfl (Or.inl rfl) (aJ bi (zpv 2) (aJ bi (aO (ac (zpv 6) (cT (aS gz (aS gz (au aN (by rfl) B.len PySem.boot_len (ac (zpv 2) aa)) ag) (zpv 6)) (cT (aS gz (aS gz (au aN (by rfl) B.len PySem.boot_len (ac (zpv 2) aa)) ag) (zpv 6)) aa)))) (aj GD (hr.mono (by decide)) (by rfl) mD kD bD .nil aw (ac (zpv 5) (aM ag aa))) (fun _ _=>rfl)) (fun _ _=>rfl)))
   (ah (aH (SPW.pt (iS (aA lf (au aN (by rfl) B.len PySem.boot_len (ac (zpv 3) aa)) ag (aG _)) (iR (aR (aI (aj GH (hr.mono (by decide)) (by rfl) mH kH bH .nil aw (ac (zpv 3) (ac (zpv 7) aa)))))))) (ah (bK (dg PySem.F.plainAttrs_list PySem.F.slot_list_append PySem.F.type_list_append cP (zpv 3) (ac (zpv 7) aa)))) az))))))
   (ah (ay (aY (ac (zpv 1) (ac (zpv 3) aa)))))))))),?_⟩
  have s100:∀{n:Nat},n≤100→n≤sizeLine:=fun h=>Nat.le_trans h (by decide);refine ⟨_,rfl,s100 (show 3≤100 by decide),?_⟩
  (intro lo glo; generalize hEq:upd _ lo _=H1; refine aZ hEq glo ?_; clear hEq; intro S1 e1 o1)
  refine ⟨a,lo,ns,[4,4,4],0,4,rfl,fh ha S1,by decide,by decide,by decide,by decide,SqL.of e1,by decide,by decide,fun t cs fs ps lg H2 ft tg cb lb S2=>?_⟩;obtain ⟨S,Fr,Pp,xs,h1,h2,rows,h4,h5⟩:=tg.ex;have tx:TgX H2 t xs cs:=⟨⟨S,_,_,_,h1,h2⟩,rows⟩;have c6:=tg.c6;have l1:=tg.l1;have l8:=tg.l8;refine ⟨_,rfl,t,cs,fs,ps,lg,xs,rfl,tg,tx,iV c6 _ (by omega),fun L H3 s3 fL hL=>?_⟩;have S3:Same H H3:=(S1.trans S2).trans s3;refine ⟨_,rfl,Nat.zero_le _,fun e0 he0=>?_⟩;have s4:=aF (o:=.lst []) he0;have hL4:=s4 _ _ hL;have e04:(upd H3 e0 (.lst [])) e0=some (.lst []):=ai;generalize upd H3 e0 (.lst [])=H4 at s4 hL4 e04;refine ⟨L,e0,_,_,rfl,rfl,SqL.of hL4,SqL.of e04,oY _,rfl,_,rfl,?_⟩;rw [show (if false=true then !iw (txs (dE cs (cmT fs ps) (dj H2 xs cs) lg.toNat)) [] else iw (txs (dE cs (cmT fs ps) (dj H2 xs cs) lg.toNat)) [])=(dE cs (cmT fs ps) (dj H2 xs cs) lg.toNat).isEmpty from u6 _];have S4:=S3.trans s4;refine bE (fun e=>?_) (fun e=>?_)
  ·refine ⟨_,rfl,t,_,_,_,rfl,rfl,SqT.of (s4 _ _ (s3 _ _ h1)),rfl,S,rfl,⟨_,SqL.of (s4 _ _ (s3 _ _ h2))⟩,fun M hM=>?_⟩;have sM:=aF (o:=.lst []) hM;have rows4:=(rows.kp (Kp.same s3)).kp (Kp.same s4);refine de (xs:=xs) (fun i σ G=>(∃v1 v2 v3,σ=[v1,v2,v3])∧Same H4 G∧∃ys,G M=some (.lst ys)∧Rows G ys (cs.take i)∧∀y∈ys,∃b sg p,y = .ref b∧G b=some (.tup [sg,p,p])∧PrA G p)
    ⟨⟨_,_,_,rfl⟩,sM,[],ai,⟨rfl,fun i x c e=>by simp at e⟩,nofun⟩ (fun i σ G p=>SqL.of (p.2.1 _ _ (s4 _ _ (s3 _ _ h2)))) ?_ ?_
   ·rintro i x σ G C hx ⟨⟨v1,v2,v3,rfl⟩,sG,ys,hMG,rG,pG⟩ nx;obtain ⟨c,hc,row⟩:=rows4.at hx;have il:=(List.getElem?_eq_some_iff.mp hc).1;obtain ⟨b,p,la,rfl,hb,hp,_⟩:=row.ex;have tc:cs.take (i + 1)=cs.take i ++ [c]:=by rw [List.take_add_one,hc]; rfl
    refine ⟨b,_,rfl,SqT.of (sG _ _ hb),rfl,_,_,rfl,_,_,rfl,_,_,rfl,rfl,?_⟩;dsimp only;rw [if_pos rfl];refine ⟨_,rfl,_,rfl,_,rfl,by show 3≤sizeLine; decide,?_⟩
    (intro b2 gb2; generalize hEq:upd _ b2 _=G2; refine aZ hEq gb2 ?_; clear hEq; intro T2 e2 o2)
    have hM2:=T2 _ _ hMG;have hpG:PrA G2 p:=hp.kp (Kp.same (sG.trans T2));refine ⟨_,hM2,?_,nx _ _ ⟨⟨_,_,_,rfl⟩,fun u o h=>by rw [am (ak h hM)]; exact T2 _ _ (sG _ _ h),ys ++ [.ref b2],ai,?_,?_⟩⟩
    ·rw [rG.len,List.length_take];exact Nat.lt_of_le_of_lt (show min i cs.length≤6 by omega) (by decide)
    ·rw [tc];exact ((rG.kp (Kp.same T2)).snoc ⟨⟨b2,p,p,rfl,e2,hpG,.inr hpG⟩,row.oc⟩).put hM2
    ·intro y hy;have up:∀{b sg p},G2 b=some (.tup [sg,p,p])→PrA G2 p→(upd G2 M (.lst (ys ++ [.ref b2]))) b=some (.tup [sg,p,p])∧PrA (upd G2 M (.lst (ys ++ [.ref b2]))) p:=fun {b sg p} h1 h2=>by
      refine ⟨by rw [am (fun z=>by rw [z,hM2] at h1; cases h1)]; exact h1,?_⟩;exact h2.ext ⟨_,hM2⟩ fun c o n h=>by rw [am n]; exact h
     rcases List.mem_append.mp hy with hy | hy
     ·obtain ⟨b',sg',p',rfl,h1',h2'⟩:=pG y hy;obtain ⟨a1,a2⟩:=up (T2 _ _ h1') (h2'.kp (Kp.same T2));exact ⟨b',sg',p',rfl,a1,a2⟩
     ·rw [List.mem_singleton.mp hy];obtain ⟨a1,a2⟩:=up e2 hpG;exact ⟨b2,_,p,rfl,a1,a2⟩
   rintro σ H5 ⟨⟨v1,v2,v3,rfl⟩,s5,ys,hM5,r5,p5⟩;rw [rows.len,List.take_length] at r5;refine ⟨Nat.zero_le _,?_⟩
   (intro F2 gF2; generalize hEq:upd _ F2 _=H6; refine aZ hEq gF2 ?_; clear hEq; intro S6 e6 o6)
   refine ⟨Nat.zero_le _,?_⟩
   (intro P2 gP2; generalize hEq:upd _ P2 _=H7; refine aZ hEq gP2 ?_; clear hEq; intro S7 e7 o7)
   have S47:=(s5.trans S6).trans S7;refine ⟨_,rfl,t,_,_,_,rfl,rfl,SqT.of (S47 _ _ (s4 _ _ (s3 _ _ h1))),rfl,by show 4≤sizeLine; decide,?_⟩
   (intro u9 gu9; generalize hEq:upd _ u9 _=H8; refine aZ hEq gu9 ?_; clear hEq; intro S8 e8 o8)
   have k58:Kp H5 H8:=Kp.same ((S6.trans S7).trans S8);have r8:=r5.kp k58;have tg8:Tg H8 u9 cs [] [] lg:=⟨⟨M,F2,P2,ys,e8,k58.lst hM5,r8,S8 _ _ (S7 _ _ e6),S8 _ _ e7⟩,tg.nd,tg.c2,tg.c6,List.nodup_nil,nofun,List.nodup_nil,nofun,l1,l8⟩;have tx8:TgX H8 u9 ys cs:=⟨⟨M,_,_,_,e8,k58.lst hM5⟩,r8⟩;refine ⟨_,rfl,u9,cs,[],[],lg,ys,rfl,tg8,tx8,iV c6 _ (by omega),fun L9 H9 s9 fL9 hL9=>?_⟩;have c2:=tg.c2;have wne:dE cs (cmT [] []) (dj H8 ys cs) lg.toNat≠[]:=by
    have i0:0 < cs.length:=by omega
    have y0:0 < ys.length:=by rw [r8.len]; exact i0
    refine xo (c:=cs[0]) (by omega) (List.getElem_mem i0) rfl ?_;refine j9 ⟨0,ys[0],List.getElem?_eq_getElem y0,List.getElem?_eq_getElem i0,?_⟩;obtain ⟨b',sg',p',e1',e2',e3'⟩:=p5 ys[0] (List.getElem_mem y0);rw [e1'];show (match H8 b' with | some (.tup [_,_,l])=>l | _=>.non)≠.non;rw [k58.tup e2'];intro z;have z:p' = .non:=z;rw [z] at e3';obtain ⟨_,_,_,e,_⟩:=e3'.ex;cases e
   have wok:∀z∈dE cs (cmT [] []) (dj H8 ys cs) lg.toNat,1≤(Lz z).length∧(Lz z).length≤8∧∀c∈Lz z,c∈cs:=fun z hz=>lX (by omega) hz;have wle:(dE cs (cmT [] []) (dj H8 ys cs) lg.toNat).length≤2100000:=iV c6 _ (by omega);have SG:Same H H9:=S4.trans (S47.trans (S8.trans s9));have tg:=tg8.kp (Kp.same s9);clear e;generalize dE cs (cmT [] []) (dj H8 ys cs) lg.toNat=ws at hL9 wne wok wle;have hW:=hL9;refine ⟨Nat.zero_le _,?_⟩
   (intro Bk gBk; generalize hEq:upd _ Bk _=G1; refine aZ hEq gBk ?_; clear hEq; intro T1 eBk oBk)
   obtain ⟨hi,ehi,h6,h63⟩:∃hi:Int,(if (if (63:Int) < ((ns.map V.int).length:Int) then (63:Int) else ((ns.map V.int).length:Int)) > 6 then (if (63:Int) < ((ns.map V.int).length:Int) then (63:Int) else ((ns.map V.int).length:Int)) else 6)=hi∧6≤hi∧hi≤63:=by
    refine ⟨_,rfl,?_,?_⟩
    ·split <;> omega
    ·split <;> split <;> omega
   have wl:=wle;have wpos:0 < ws.length:=List.length_pos_iff.mpr wne;have tl:(txs ws).length=ws.length:=aX ws;have bkf:H Bk=none:=SG.free gBk;refine ⟨_,rfl,a,_,rfl,.inl (fh ha (SG.trans T1)),_,_,rfl,_,_,rfl,2,hi,by rw [← ehi],⟨by omega,by omega,by omega,by omega⟩,?_⟩;refine dn (lo:=2) (n:=(hi - 2).toNat) (fun i σ Gi=>∃v4 v5 v6 v7 bk,σ=[some (.ref a),some (.ref u9),some (.ref L9),some (.ref Bk),v4,v5,v6,v7]∧Same H9 Gi∧Gi Bk=some (.lst (txs bk))∧bk.length≤20∧(∀z∈bk,z∈ws)∧(bk.Pairwise fun y z=>dm y z=false)∧(0 < i→bk≠[]))
    ⟨_,_,_,_,[],rfl,T1,eBk,by decide,nofun,List.Pairwise.nil,fun h=>absurd h (by decide)⟩ ?_ ?_
   ·rintro i σ Gi hi' ⟨v4,v5,v6,v7,bk,rfl,sG,hB,bl,bin,bap,bne⟩;have hWi:=sG _ _ hW;refine ⟨_,rfl,_,rfl,a,ns,2 + (i:Int),rfl,fh ha (SG.trans sG),by omega,fun zc=>⟨_,rfl,zc,2 + (i:Int),rfl,by omega,by omega,fun p G2 fp sp op=>?_⟩⟩;have keep:∀{Ga Gb:Hp},Same Gi Ga→(∀b,b≠p→Gb b=Ga b)→Same Gi Gb:=fun {Ga Gb} s o b u h=>(o b (ak h fp)).trans (s b u h);have T2:=keep (Same.refl Gi) op;refine ⟨_,rfl,_,rfl,_,rfl,L9,_,rfl,.inl (SqL.of (T2 _ _ hWi)),p,_,rfl,sp,by omega,aT (by omega) (by omega),fun d1 G3 d1a d1b sp3 o3=>?_⟩;have T3:=keep T2 o3;refine ⟨_,_,rfl,rfl,p,1 + d1,rfl,sp3,by omega,aT (by omega) (by omega),fun d2 G4 d2a d2b sp4 o4=>?_⟩;have T4:=keep T3 o4;refine ⟨_,rfl,_,rfl,_,rfl,L9,_,rfl,.inl (SqL.of (T4 _ _ hWi)),_,_,rfl,rfl,_,rfl,_,_,rfl,rfl,_,rfl,L9,_,rfl,.inl (SqL.of (T4 _ _ hWi)),_,_,rfl,rfl,_,rfl,_,_,rfl,rfl,s100 (show 3≤100 by decide),?_⟩
    (intro tr gtr; generalize hEq:upd _ tr _=G5; refine aZ hEq gtr ?_; clear hEq; intro T5' e5 o5)
    have T5:=T4.trans T5';have sp5:Src G5 p:=by
     obtain ⟨n',sd,hp,n0,s0,s1⟩:=sp4;exact ⟨n',sd,T5' _ _ hp,n0,s0,s1⟩
    refine ⟨_,rfl,p,3,rfl,sp5,by decide,aT (by decide) (by decide),fun d3 G6 d3a d3b sp6 o6=>?_⟩;have T6:=keep T5 o6;have ntr:tr≠p:=fun z=>by
     obtain ⟨n',sd,hp,_⟩:=sp4;rw [z,hp] at gtr; cases gtr
    have etr:G6 tr=_:=(o6 tr ntr).trans e5;obtain ⟨ix,hix,ixl⟩:∃ix:Nat,atI [V.int d2,V.int (((txs ws).length:Int) - 1 - d2),V.int (((txs ws).length:Int) - 1 - d2)] d3=some (.int (ix:Int))∧ix < ws.length:=by
     have c:d3=0∨d3=1∨d3=2:=by omega
     rcases c with rfl | rfl | rfl
     ·exact ⟨d2.toNat,by rw [show ((d2.toNat:Nat):Int)=d2 by omega]; rfl,by omega⟩
     ·exact ⟨(((txs ws).length:Int) - 1 - d2).toNat,by rw [show (((((txs ws).length:Int) - 1 - d2).toNat:Nat):Int)=((txs ws).length:Int) - 1 - d2 by omega]; rfl,by omega⟩
     ·exact ⟨(((txs ws).length:Int) - 1 - d2).toNat,by rw [show (((((txs ws).length:Int) - 1 - d2).toNat:Nat):Int)=((txs ws).length:Int) - 1 - d2 by omega]; rfl,by omega⟩
    obtain ⟨x,hx⟩:∃x,ws[ix]? = some x:=⟨_,List.getElem?_eq_getElem ixl⟩;have xm:=List.mem_of_getElem? hx;have hat:atI (txs ws) (ix:Int)=some (.str x):=by
     unfold atI ixN;have:(ix:Int) < ((txs ws).length:Int):=by omega
     rw [if_pos (by omega),if_pos (by omega)];simp only [Option.bind_some,Int.toNat_natCast];unfold txs;rw [List.getElem?_map,hx]; rfl
    refine ⟨tr,_,_,_,rfl,rfl,SqL.of etr,hix,L9,_,_,_,rfl,rfl,SqL.of (T6 _ _ hWi),hat,?_⟩;have hB6:=T6 _ _ hB;have zl:∀z∈ws,z.length≤100:=fun z hz=>by
     have:=(wok z hz).2.1;have e:(Lz z).length=z.length:=by unfold Lz; simp; rfl
     omega
    refine ⟨_,rfl,Bk,_,rfl,.inl (SqL.of hB6),_,_,rfl,rfl,_,rfl,bE (fun e20=>?_) (fun e20=>aU ?_)⟩
    ·have l20:bk.length < 20:=by
      have:=of_decide_eq_true e20;rw [aX] at this;omega
     refine ⟨_,rfl,_,rfl,Bk,bk,x,rfl,hB6,by omega,zl x xm,fun z hz=>zl z (bin z hz),fun b G7 s7 nb nn=>?_⟩;have T7:=T6.trans s7;have hB7:=s7 _ _ hB6;cases b with
     | true=>
      refine ⟨_,rfl,aU ⟨_,_,_,_,bk,rfl,sG.trans T7,hB7,bl,bin,bap,fun _ z=>?_⟩⟩;have:=nn z;cases this
     | false=>
      refine ⟨_,rfl,bc ?_⟩;refine ⟨_,rfl,.inl ⟨rfl,_,SqL.of hB7⟩,_,rfl,Bk,_,_,rfl,rfl,hB7,?_,_,_,_,_,bk ++ [x],rfl,fun u o h=>?_,?_,?_,?_,?_,fun _ z=>by simp at z⟩
      ·rw [aX];exact Nat.lt_of_le_of_lt (show bk.length≤100 by omega) (by decide)
      ·rw [am (ak h gBk)];exact T7 _ _ (sG _ _ h)
      ·rw [ai];unfold txs;rw [List.map_append]; rfl
      ·rw [List.length_append]; simp; omega
      ·intro z hz;rcases List.mem_append.mp hz with hz | hz
       ·exact bin z hz
       ·rw [List.mem_singleton.mp hz]; exact xm
      ·refine List.pairwise_append.mpr ⟨bap,List.pairwise_singleton _ _,fun y hy z hz=>?_⟩;rw [List.mem_singleton.mp hz];exact nb rfl y hy
    ·refine ⟨_,_,_,_,bk,rfl,sG.trans T6,hB6,bl,bin,bap,fun _ z=>e20 ?_⟩;rw [z]; rfl
   ·rintro σ Gi ⟨v4,v5,v6,v7,bk,rfl,sG,hB,bl,bin,bap,bne⟩;refine ⟨_,rfl,_,rfl,s100 (show 2≤100 by decide),?_⟩
    (intro u gu; generalize hEq:upd _ u _=G9; refine aZ hEq gu ?_; clear hEq; intro T9 e9 o9)
    exact q u u9 Bk cs [] [] lg bk G9 (SG.trans (sG.trans T9)) e9 (tg.kp (Kp.same (sG.trans T9))) (T9 _ _ hB) bkf ⟨bne (by omega),bl,fun z hz=>wok z (bin z hz),bap⟩
  have wne:dE cs (cmT fs ps) (dj H2 xs cs) lg.toNat≠[]:=fun z=>e (by rw [z]; rfl);have wok:∀z∈dE cs (cmT fs ps) (dj H2 xs cs) lg.toNat,1≤(Lz z).length∧(Lz z).length≤8∧∀c∈Lz z,c∈cs:=fun z hz=>lX (by omega) hz;have wle:(dE cs (cmT fs ps) (dj H2 xs cs) lg.toNat).length≤2100000:=iV c6 _ (by omega);have tgG:=tg.kp (Kp.same (s3.trans s4));clear e;generalize dE cs (cmT fs ps) (dj H2 xs cs) lg.toNat=ws at hL4 wne wok wle;have hW:=hL4;have SG:=S4;have tg:=tgG;refine ⟨Nat.zero_le _,?_⟩
  (intro Bk gBk; generalize hEq:upd _ Bk _=G1; refine aZ hEq gBk ?_; clear hEq; intro T1 eBk oBk)
  obtain ⟨hi,ehi,h6,h63⟩:∃hi:Int,(if (if (63:Int) < ((ns.map V.int).length:Int) then (63:Int) else ((ns.map V.int).length:Int)) > 6 then (if (63:Int) < ((ns.map V.int).length:Int) then (63:Int) else ((ns.map V.int).length:Int)) else 6)=hi∧6≤hi∧hi≤63:=by
   refine ⟨_,rfl,?_,?_⟩
   ·split <;> omega
   ·split <;> split <;> omega
  have wl:=wle;have wpos:0 < ws.length:=List.length_pos_iff.mpr wne;have tl:(txs ws).length=ws.length:=aX ws;have bkf:H Bk=none:=SG.free gBk;refine ⟨_,rfl,a,_,rfl,.inl (fh ha (SG.trans T1)),_,_,rfl,_,_,rfl,2,hi,by rw [← ehi],⟨by omega,by omega,by omega,by omega⟩,?_⟩;refine dn (lo:=2) (n:=(hi - 2).toNat) (fun i σ Gi=>∃v4 v5 v6 v7 bk,σ=[some (.ref a),some (.ref t),some (.ref L),some (.ref Bk),v4,v5,v6,v7]∧Same H4 Gi∧Gi Bk=some (.lst (txs bk))∧bk.length≤20∧(∀z∈bk,z∈ws)∧(bk.Pairwise fun y z=>dm y z=false)∧(0 < i→bk≠[]))
   ⟨_,_,_,_,[],rfl,T1,eBk,by decide,nofun,List.Pairwise.nil,fun h=>absurd h (by decide)⟩ ?_ ?_
  ·rintro i σ Gi hi' ⟨v4,v5,v6,v7,bk,rfl,sG,hB,bl,bin,bap,bne⟩;have hWi:=sG _ _ hW;refine ⟨_,rfl,_,rfl,a,ns,2 + (i:Int),rfl,fh ha (SG.trans sG),by omega,fun zc=>⟨_,rfl,zc,2 + (i:Int),rfl,by omega,by omega,fun p G2 fp sp op=>?_⟩⟩;have keep:∀{Ga Gb:Hp},Same Gi Ga→(∀b,b≠p→Gb b=Ga b)→Same Gi Gb:=fun {Ga Gb} s o b u h=>(o b (ak h fp)).trans (s b u h);have T2:=keep (Same.refl Gi) op;refine ⟨_,rfl,_,rfl,_,rfl,L,_,rfl,.inl (SqL.of (T2 _ _ hWi)),p,_,rfl,sp,by omega,aT (by omega) (by omega),fun d1 G3 d1a d1b sp3 o3=>?_⟩;have T3:=keep T2 o3;refine ⟨_,_,rfl,rfl,p,1 + d1,rfl,sp3,by omega,aT (by omega) (by omega),fun d2 G4 d2a d2b sp4 o4=>?_⟩;have T4:=keep T3 o4;refine ⟨_,rfl,_,rfl,_,rfl,L,_,rfl,.inl (SqL.of (T4 _ _ hWi)),_,_,rfl,rfl,_,rfl,_,_,rfl,rfl,_,rfl,L,_,rfl,.inl (SqL.of (T4 _ _ hWi)),_,_,rfl,rfl,_,rfl,_,_,rfl,rfl,s100 (show 3≤100 by decide),?_⟩
   (intro tr gtr; generalize hEq:upd _ tr _=G5; refine aZ hEq gtr ?_; clear hEq; intro T5' e5 o5)
   have T5:=T4.trans T5';have sp5:Src G5 p:=by
    obtain ⟨n',sd,hp,n0,s0,s1⟩:=sp4;exact ⟨n',sd,T5' _ _ hp,n0,s0,s1⟩
   refine ⟨_,rfl,p,3,rfl,sp5,by decide,aT (by decide) (by decide),fun d3 G6 d3a d3b sp6 o6=>?_⟩;have T6:=keep T5 o6;have ntr:tr≠p:=fun z=>by
    obtain ⟨n',sd,hp,_⟩:=sp4;rw [z,hp] at gtr; cases gtr
   have etr:G6 tr=_:=(o6 tr ntr).trans e5;obtain ⟨ix,hix,ixl⟩:∃ix:Nat,atI [V.int d2,V.int (((txs ws).length:Int) - 1 - d2),V.int (((txs ws).length:Int) - 1 - d2)] d3=some (.int (ix:Int))∧ix < ws.length:=by
    have c:d3=0∨d3=1∨d3=2:=by omega
    rcases c with rfl | rfl | rfl
    ·exact ⟨d2.toNat,by rw [show ((d2.toNat:Nat):Int)=d2 by omega]; rfl,by omega⟩
    ·exact ⟨(((txs ws).length:Int) - 1 - d2).toNat,by rw [show (((((txs ws).length:Int) - 1 - d2).toNat:Nat):Int)=((txs ws).length:Int) - 1 - d2 by omega]; rfl,by omega⟩
    ·exact ⟨(((txs ws).length:Int) - 1 - d2).toNat,by rw [show (((((txs ws).length:Int) - 1 - d2).toNat:Nat):Int)=((txs ws).length:Int) - 1 - d2 by omega]; rfl,by omega⟩
   obtain ⟨x,hx⟩:∃x,ws[ix]? = some x:=⟨_,List.getElem?_eq_getElem ixl⟩;have xm:=List.mem_of_getElem? hx;have hat:atI (txs ws) (ix:Int)=some (.str x):=by
    unfold atI ixN;have:(ix:Int) < ((txs ws).length:Int):=by omega
    rw [if_pos (by omega),if_pos (by omega)];simp only [Option.bind_some,Int.toNat_natCast];unfold txs;rw [List.getElem?_map,hx]; rfl
   refine ⟨tr,_,_,_,rfl,rfl,SqL.of etr,hix,L,_,_,_,rfl,rfl,SqL.of (T6 _ _ hWi),hat,?_⟩;have hB6:=T6 _ _ hB;have zl:∀z∈ws,z.length≤100:=fun z hz=>by
    have:=(wok z hz).2.1;have e:(Lz z).length=z.length:=by unfold Lz; simp; rfl
    omega
   refine ⟨_,rfl,Bk,_,rfl,.inl (SqL.of hB6),_,_,rfl,rfl,_,rfl,bE (fun e20=>?_) (fun e20=>aU ?_)⟩
   ·have l20:bk.length < 20:=by
     have:=of_decide_eq_true e20;rw [aX] at this;omega
    refine ⟨_,rfl,_,rfl,Bk,bk,x,rfl,hB6,by omega,zl x xm,fun z hz=>zl z (bin z hz),fun b G7 s7 nb nn=>?_⟩;have T7:=T6.trans s7;have hB7:=s7 _ _ hB6;cases b with
    | true=>
     refine ⟨_,rfl,aU ⟨_,_,_,_,bk,rfl,sG.trans T7,hB7,bl,bin,bap,fun _ z=>?_⟩⟩;have:=nn z;cases this
    | false=>
     refine ⟨_,rfl,bc ?_⟩;refine ⟨_,rfl,.inl ⟨rfl,_,SqL.of hB7⟩,_,rfl,Bk,_,_,rfl,rfl,hB7,?_,_,_,_,_,bk ++ [x],rfl,fun u o h=>?_,?_,?_,?_,?_,fun _ z=>by simp at z⟩
     ·rw [aX];exact Nat.lt_of_le_of_lt (show bk.length≤100 by omega) (by decide)
     ·rw [am (ak h gBk)];exact T7 _ _ (sG _ _ h)
     ·rw [ai];unfold txs;rw [List.map_append]; rfl
     ·rw [List.length_append]; simp; omega
     ·intro z hz;rcases List.mem_append.mp hz with hz | hz
      ·exact bin z hz
      ·rw [List.mem_singleton.mp hz]; exact xm
     ·refine List.pairwise_append.mpr ⟨bap,List.pairwise_singleton _ _,fun y hy z hz=>?_⟩;rw [List.mem_singleton.mp hz];exact nb rfl y hy
   ·refine ⟨_,_,_,_,bk,rfl,sG.trans T6,hB6,bl,bin,bap,fun _ z=>e20 ?_⟩;rw [z]; rfl
  ·rintro σ Gi ⟨v4,v5,v6,v7,bk,rfl,sG,hB,bl,bin,bap,bne⟩;refine ⟨_,rfl,_,rfl,s100 (show 2≤100 by decide),?_⟩
   (intro u gu; generalize hEq:upd _ u _=G9; refine aZ hEq gu ?_; clear hEq; intro T9 e9 o9)
   exact q u t Bk cs fs ps lg bk G9 (SG.trans (sG.trans T9)) e9 (tg.kp (Kp.same (sG.trans T9))) (T9 _ _ hB) bkf ⟨bne (by omega),bl,fun z hz=>wok z (bin z hz),bap⟩
end
def ThL (H:Hp) (A:Addr) (ts:List (Nat × Str)):Prop:=∃as:List Addr,H A=some (.lst (as.map V.ref))∧as.length=ts.length∧∀(j:Nat) (a:Addr) (p:Nat × Str),as[j]? = some a→ts[j]? = some p→H a=some (.tup [.int (p.1:Int),.str p.2])
theorem ThL.same {H H':Hp} {A:Addr} {ts:List (Nat × Str)} (h:ThL H A ts) (s:Same H H'):ThL H' A ts:=by
 obtain ⟨as,h1,h2,h3⟩:=h;exact ⟨as,s _ _ h1,h2,fun j a p e1 e2=>s _ _ (h3 j a p e1 e2)⟩
def grp (c d:Nat) (ts:List (Nat × Str)):List (Nat × Str):=ts.filter fun p=>decide ((Lz p.2)[d]? = some c)
structure Good (cs:List Nat) (d:Nat) (ts:List (Nat × Str)):Prop where
 ne:ts≠[]
 le:ts.length≤100
 sz:∀p∈ts,d < (Lz p.2).length∧(Lz p.2).length≤8∧∀c∈Lz p.2,c∈cs
 apart:ts.Pairwise fun p q=>dm p.2 q.2=false
 pre:∀p∈ts,∀q∈ts,(Lz p.2).take d=(Lz q.2).take d
theorem Good.next {cs:List Nat} {d c:Nat} {ts:List (Nat × Str)} (g:Good cs d ts) (ne:grp c d ts≠[]):(∃n z,grp c d ts=[(n,z)]∧(Lz z).length=d + 1)∨Good cs (d + 1) (grp c d ts):=by
 have mem:∀p∈grp c d ts,p∈ts∧(Lz p.2)[d]? = some c:=fun p hp=>by
  obtain ⟨a,b⟩:=List.mem_filter.mp hp;exact ⟨a,of_decide_eq_true b⟩
 have pre:∀p∈grp c d ts,∀q∈grp c d ts,(Lz p.2).take (d + 1)=(Lz q.2).take (d + 1):=fun p hp q hq=>by
  obtain ⟨p1,p2⟩:=mem p hp;obtain ⟨q1,q2⟩:=mem q hq;rw [List.take_add_one,List.take_add_one,p2,q2,g.pre p p1 q q1]
 have ap:(grp c d ts).Pairwise fun p q=>dm p.2 q.2=false:=g.apart.filter _
 by_cases h:∃p∈grp c d ts,(Lz p.2).length=d + 1
 ·left
  obtain ⟨p,hp,e⟩:=h;have cl:∀q∈grp c d ts,dm p.2 q.2=true:=fun q hq=>by
   have e1:=pre p hp q hq;rw [List.take_of_length_le (by omega)] at e1;have e2:Lz q.2=Lz p.2 ++ (Lz q.2).drop (d + 1):=by rw [e1,List.take_append_drop]
   exact oX e2
  match hG:grp c d ts,ne with
  | [q],_=>
   rw [hG] at hp;have:=List.mem_singleton.mp hp;subst this;exact ⟨p.1,p.2,rfl,e⟩
  | q :: r :: rest,_=>
   exfalso
   rw [hG] at hp ap cl;rcases List.mem_cons.mp hp with rfl | hp
   ·have a:=(List.pairwise_cons.mp ap).1 r List.mem_cons_self;have b:=cl r (List.mem_cons_of_mem _ List.mem_cons_self);rw [a] at b; cases b
   ·have a:=(List.pairwise_cons.mp ap).1 p hp;have b:=cl q List.mem_cons_self;rw [lV,a] at b; cases b
 ·right
  refine ⟨ne,Nat.le_trans (List.length_filter_le _ _) g.le,fun p hp=>?_,ap,pre⟩;obtain ⟨p1,p2⟩:=mem p hp;obtain ⟨a,b,c'⟩:=g.sz p p1;have:(Lz p.2).length≠d + 1:=fun z=>h ⟨p,hp,z⟩;exact ⟨by omega,b,c'⟩
structure Rw where
 c:Nat
 t:Addr
 v:V
 fp:List Addr
def BrV (cs:List Nat) (H:Hp):Nat→Nat→List (Nat × Str)→Addr→List Addr→Prop
 | 0,_,_,_,_=>False
 | k + 1,d,ts,L,fp=>∃rows:List Rw,H L=some (.lst (rows.map fun r=>V.ref r.t))∧rows.map Rw.c=cs.filter (fun c=>!(grp c d ts).isEmpty)∧
   (∀r∈rows,H r.t=some (.tup [.str (sg1 r.c),r.v])∧((∃n z,grp r.c d ts=[(n,z)]∧(Lz z).length=d + 1∧r.v = .int (n:Int)∧r.fp=[])∨(Good cs (d + 1) (grp r.c d ts)∧∃L',r.v = .ref L'∧BrV cs H k (d + 1) (grp r.c d ts) L' r.fp)))∧
   fp=L :: rows.flatMap Rw.fp∧fp.Nodup
theorem BrV.keep {cs:List Nat} {H H':Hp}:∀{k d:Nat} {ts:List (Nat × Str)} {L:Addr} {fp:List Addr},BrV cs H k d ts L fp→(∀b∈fp,∀o,H b=some o→H' b=some o)→(∀b xs,H b=some (.tup xs)→H' b=some (.tup xs))→BrV cs H' k d ts L fp
 | 0,_,_,_,_,h,_,_=>h
 | k + 1,d,ts,L,fp,⟨rows,h1,h2,h3,h4,h5⟩,kl,kt=>by
  refine ⟨rows,kl L (by rw [h4]; exact List.mem_cons_self) _ h1,h2,fun r hr=>?_,h4,h5⟩;obtain ⟨a,b⟩:=h3 r hr;refine ⟨kt _ _ a,b.imp id fun ⟨g,L',e,x⟩=>⟨g,L',e,BrV.keep x (fun u hu o ho=>kl u ?_ o ho) kt⟩⟩;rw [h4];exact List.mem_cons_of_mem _ (List.mem_flatMap.mpr ⟨r,hr,hu⟩)
theorem BrV.lists {cs:List Nat} {H:Hp}:∀{k d:Nat} {ts:List (Nat × Str)} {L:Addr} {fp:List Addr},BrV cs H k d ts L fp→∀b∈fp,∃xs,H b=some (.lst xs)
 | 0,_,_,_,_,h=>h.elim
 | k + 1,d,ts,L,fp,⟨rows,h1,h2,h3,h4,h5⟩=>fun b hb=>by
  rw [h4] at hb;rcases List.mem_cons.mp hb with rfl | hb
  ·exact ⟨_,h1⟩
  ·obtain ⟨r,hr,hb⟩:=List.mem_flatMap.mp hb;obtain ⟨_,x⟩:=h3 r hr;rcases x with ⟨_,_,_,_,_,e⟩ | ⟨_,L',_,x⟩
   ·rw [e] at hb; cases hb
   ·exact BrV.lists x b hb
theorem BrV.nodup {cs:List Nat} {H:Hp} {k d:Nat} {ts:List (Nat × Str)} {L:Addr} {fp:List Addr} (h:BrV cs H k d ts L fp):fp.Nodup:=by
 cases k with
 | zero=>exact h.elim
 | succ k=>
  obtain ⟨rows,_,_,_,_,h5⟩:=h;exact h5
def RowOk (cs:List Nat) (H:Hp) (k d:Nat) (ts:List (Nat × Str)) (r:Rw):Prop:=H r.t=some (.tup [.str (sg1 r.c),r.v])∧((∃n z,grp r.c d ts=[(n,z)]∧(Lz z).length=d + 1∧r.v = .int (n:Int)∧r.fp=[])∨(Good cs (d + 1) (grp r.c d ts)∧∃L',r.v = .ref L'∧BrV cs H k (d + 1) (grp r.c d ts) L' r.fp))
theorem RowOk.keep {cs:List Nat} {H H':Hp} {k d:Nat} {ts:List (Nat × Str)} {r:Rw} (h:RowOk cs H k d ts r) (kl:∀b∈r.fp,∀o,H b=some o→H' b=some o) (kt:∀b xs,H b=some (.tup xs)→H' b=some (.tup xs)):RowOk cs H' k d ts r:=
 ⟨kt _ _ h.1,h.2.imp id fun ⟨g,L',e,x⟩=>⟨g,L',e,BrV.keep x kl kt⟩⟩
theorem RowOk.lists {cs:List Nat} {H:Hp} {k d:Nat} {ts:List (Nat × Str)} {r:Rw} (h:RowOk cs H k d ts r):∀b∈r.fp,∃xs,H b=some (.lst xs):=fun b hb=>by
 rcases h.2 with ⟨_,_,_,_,_,e⟩ | ⟨_,L',_,x⟩
 ·rw [e] at hb; cases hb
 ·exact BrV.lists x b hb
theorem ThL.snoc {G:Hp} {M b:Addr} {xs:List V} {ts:List (Nat × Str)} {p:Nat × Str} (h:ThL G M ts) (hM:G M=some (.lst xs)) (hb:G b=some (.tup [.int (p.1:Int),.str p.2])):ThL (upd G M (.lst (xs ++ [V.ref b]))) M (ts ++ [p]):=by
 obtain ⟨ad,h1,h2,h3⟩:=h;rw [hM] at h1;cases h1;have tn:∀{a:Addr} {ys:List V},G a=some (.tup ys)→a≠M:=fun {a ys} e z=>by rw [z,hM] at e; cases e
 refine ⟨ad ++ [b],by rw [ai,List.map_append]; rfl,by rw [List.length_append,List.length_append,h2]; rfl,fun i a y e1 e2=>?_⟩
 by_cases hi:i < ad.length
 ·rw [List.getElem?_append_left hi] at e1;rw [List.getElem?_append_left (by omega)] at e2;have q:=h3 i a y e1 e2;rw [am (tn q)]; exact q
 ·rw [List.getElem?_append_right (by omega)] at e1;have il:=(List.getElem?_eq_some_iff.mp e1).1;have i0:i - ad.length=0:=by
   simp at il; omega
  rw [i0] at e1;cases e1;rw [List.getElem?_append_right (by omega),show i - ts.length=0 by omega] at e2;cases e2;rw [am (tn hb)]; exact hb
theorem cJ (z:Str):(Lz z).length=z.length:=by unfold Lz; simp; rfl
section
variable {P:Program} {w:World} {K:PySem.W.Frag} {mg:Str→Option Value} {base:Heap}
def va (k:Nat):Sp:=fun vs H Q _=>∃(S Th:Addr) (cs:List Nat) (ts:List (Nat × Str)) (d:Nat),vs=[.ref S,.ref Th,.int (d:Int)]∧d + k≤sizeLine∧H S=some (.lst (txs (sgs cs)))∧cs.length≤6∧ThL H Th ts∧Good cs d ts∧(∀p∈ts,(Lz p.2).length≤d + k)∧
 ∀L fp H',Same H H'→BrV cs H' k d ts L fp→(∀b∈fp,H b=none)→Q (.ref L) H'
def vb (k:Nat):Sp:=fun vs H Q _=>∃(S Th:Addr) (cs:List Nat) (ts:List (Nat × Str)) (d:Nat),vs=[.ref S,.ref Th,.int (d:Int)]∧d + k≤sizeLine∧H S=some (.lst (txs (sgs cs)))∧cs.length≤6∧ThL H Th ts∧(∀p∈ts,(Lz p.2).length≤d + k)∧
 ((∃n z,ts=[(n,z)]∧(Lz z).length=d∧Q (.int (n:Int)) H)∨(Good cs d ts∧∀L fp H',Same H H'→BrV cs H' k d ts L fp→(∀b∈fp,H b=none)→Q (.ref L) H'))
theorem scBr:FnScope ["signs","things","deep","tree","sign","taken"] ["signs","things","deep"] (af cQ):=⟨rfl,rfl,rfl,by decide +kernel,rfl,by decide +kernel,by decide +kernel⟩
theorem scNo:FnScope ["signs","things","deep","number","word"] ["signs","things","deep"] (af jZ):=⟨rfl,rfl,rfl,by decide +kernel,rfl,by decide +kernel,by decide +kernel⟩
theorem pb {k:Nat} {fN:Addr} {fdN:FuncData} {f:Addr} {fd:FuncData} (F:FunG K "branches_of" "branches_of" cQ .none f fd) (B:Bl mg)
  (GN:FnOk P w K mg base (CXE P w) (2 * k + 2) fN fdN ["signs","things","deep"] (vb k)) (mN:mg "node_of" = some (.ref fN)) (kN:PySem.W.keepIn K (.ref fN)=true) (bN:Binds K fdN ["signs","things","deep"] []):FnOk P w K mg base (CXE P w) (2 * (k + 1) + 1) f fd ["signs","things","deep"] (va (k + 1)):=by
 refine F.zokN scBr (fun vs H Q E h=>?_) (fun cdv A outer s H vs Q E hr h=>?_)
 ·obtain ⟨S,Th,cs,ts,d,rfl,_⟩:=h;rfl
 ·obtain ⟨S,Th,cs,ts,d,rfl,hk,hS,c6,hT,g,szk,q⟩:=h;refine ⟨_,(ae (ax (i:=3) scBr.nd rfl (Or.inl rfl) (aO aa))
   (ae (cE PassesOwn.never rfl (aQ (zpv 0)) (aq (i:=4) scBr.nd rfl (Or.inr rfl))
     (ae (h8 (i:=5) ["signs","things","deep","tree","sign","taken"] ["number","word"] [2,4] (af cQ) rfl rfl rfl ⟨by decide +kernel,by decide +kernel,by decide +kernel,by decide +kernel,by decide +kernel⟩ scBr.nd rfl (Or.inl rfl) (aQ (zpv 1)) (fun s H fp=>(eC K 2 rfl rfl (aE (aq (i:=0) (show List.Nodup [("number" : Str),"word","deep","sign"] by decide +kernel) rfl (Or.inl rfl)) (aE (aq (i:=1) (show List.Nodup [("number" : Str),"word","deep","sign"] by decide +kernel) rfl (Or.inl rfl)) bw)))) (fun s H fp=>(dh (aA cz (aJ ja (zpv 1) (zpv 2) (fun _ _=>rfl)) (zpv 3) (aG _)))) (fun s H fp=>(aY (ac (zpv 0) (ac (zpv 1) aa)))))
   (ah (aH (sI (zpv 5) (fun _=>rfl)) (ah (bK (dg PySem.F.plainAttrs_list PySem.F.slot_list_append PySem.F.type_list_append cP (zpv 3) (cu (aY (ac (zpv 4) (bt (aj GN hr (by rfl) mN kN bN .nil aw (ac (zpv 0) (ac (zpv 5) (cT (aS cB (zpv 2) ag) aa)))) aa))) aa)))) az))))
   (ah (ay (zpv 3))))),?_⟩
  have s100:∀{n:Nat},n≤100→n≤sizeLine:=fun h=>Nat.le_trans h (by decide);refine ⟨Nat.zero_le _,?_⟩
  (intro Tr gTr; generalize hEq:upd _ Tr _=G0; refine aZ hEq gTr ?_; clear hEq; intro T0 e0 o0)
  refine ⟨_,rfl,S,rfl,⟨_,SqL.of (T0 _ _ hS)⟩,dA (K:=K) (a:=S) (xs:=txs (sgs cs)) (fun i σ G=>∃v4 v5 rows,σ=[some (.ref S),some (.ref Th),some (.int (d:Int)),some (.ref Tr),v4,v5]∧Same H G∧G Tr=some (.lst (List.map (fun r:Rw=>V.ref r.t) rows))∧rows.map Rw.c=(cs.take i).filter (fun c=>!(grp c d ts).isEmpty)∧(∀r∈rows,RowOk cs G k d ts r)∧(Tr :: rows.flatMap Rw.fp).Nodup∧∀b∈rows.flatMap Rw.fp,H b=none)
   ⟨_,_,[],rfl,T0,e0,rfl,nofun,by simp,nofun⟩ (fun i σ G _ p=>by obtain ⟨_,_,_,_,s,_⟩:=p; exact SqL.of (s _ _ hS)) ?_ ?_⟩
  ·rintro i x σ G hx ⟨v4,v5,rows,rfl,sG,hTr,hc,rok,nd,fr⟩;obtain ⟨z0,hz0,rfl⟩:=gJ hx;obtain ⟨c,hcc,e⟩:∃c,cs[i]? = some c∧sg1 c=z0:=by
    unfold sgs at hz0;rw [List.getElem?_map] at hz0;exact Option.map_eq_some_iff.mp hz0
   subst e;have il:=(List.getElem?_eq_some_iff.mp hcc).1;have tk:cs.take (i + 1)=cs.take i ++ [c]:=by rw [List.take_add_one,hcc]; rfl
   obtain ⟨as,hTh,asl,hel⟩:=hT.same sG;refine ⟨_,rfl,Th,rfl,⟨_,SqL.of hTh⟩,fun M hM=>?_⟩;refine de (xs:=as.map V.ref) (fun j σ G2=>(∃v1 v2,σ=[v1,v2,some (.int (d:Int)),some (.str (sg1 c))])∧Same G G2∧ThL G2 M (grp c d (ts.take j))) ⟨⟨_,_,rfl⟩,aF hM,⟨[],ai,rfl,fun j a p e=>by simp at e⟩⟩ (fun j σ G2 p=>SqL.of (p.2.1 _ _ hTh)) ?_ ?_
   ·rintro j y σ G2 C hy ⟨⟨v1,v2,rfl⟩,s2,hM2⟩ nx;rw [List.getElem?_map] at hy;obtain ⟨a,ha,e⟩:=Option.map_eq_some_iff.mp hy;cases e;have jl:=(List.getElem?_eq_some_iff.mp ha).1;obtain ⟨p,hp⟩:∃p,ts[j]? = some p:=⟨_,List.getElem?_eq_getElem (by omega)⟩;have pm:=List.mem_of_getElem? hp;have hat:=s2 _ _ (hel j a p ha hp);have tkj:ts.take (j + 1)=ts.take j ++ [p]:=by rw [List.take_add_one,hp]; rfl
    obtain ⟨sz1,sz2,_⟩:=g.sz p pm;refine ⟨a,_,rfl,SqT.of hat,rfl,_,_,rfl,_,_,rfl,rfl,?_⟩;have hix:atI p.2.cps.toList (d:Int)=some ((Lz p.2)[d]):=by
     unfold atI ixN;have l0:p.2.cps.toList.length=(Lz p.2).length:=rfl;rw [if_pos (by omega),if_pos (by omega)];simp only [Option.bind_some,Int.toNat_natCast];exact List.getElem?_eq_getElem sz1
    refine ⟨_,rfl,_,rfl,p.2,_,_,rfl,rfl,Nat.le_trans (show p.2.length≤8 by rw [← cJ]; exact sz2) (by decide),hix,_,rfl,rfl,_,rfl,bE (fun e=>?_) (fun e=>?_)⟩
    ·have e:sg1 ((Lz p.2)[d])=sg1 c:=by
      have e:=of_decide_eq_true (p:=V.str (sg1 ((Lz p.2)[d]))=V.str (sg1 c)) e;cases e; rfl
     have e:=dM e;refine ⟨_,rfl,_,rfl,s100 (show 2≤100 by decide),?_⟩
     (intro b1 gb1; generalize hEq:upd _ b1 _=G3; refine aZ hEq gb1 ?_; clear hEq; intro S3 e3 o3)
     have hM3:=hM2.same S3;obtain ⟨as',h1',h2',h3'⟩:=id hM3;refine ⟨_,h1',?_,nx _ _ ⟨⟨_,_,rfl⟩,fun u o h=>by rw [am (ak h hM)]; exact S3 _ _ (s2 _ _ h),?_⟩⟩
     ·rw [List.length_map,h2'];have:=List.length_filter_le (fun p=>decide ((Lz p.2)[d]? = some c)) (ts.take j);rw [List.length_take] at this;have:=g.le;exact Nat.lt_of_le_of_lt (show _≤100 by unfold grp; omega) (by decide)
     ·have eg:grp c d (ts.take (j + 1))=grp c d (ts.take j) ++ [p]:=by
       unfold grp;rw [tkj,List.filter_append,List.filter_cons_of_pos (p:=fun p=>decide ((Lz p.2)[d]? = some c)) (a:=p) (decide_eq_true (by rw [List.getElem?_eq_getElem sz1,e]))];rfl
      rw [eg];exact hM3.snoc h1' e3
    ·refine nx _ _ ⟨⟨_,_,rfl⟩,s2,?_⟩;have eg:grp c d (ts.take (j + 1))=grp c d (ts.take j):=by
      unfold grp;rw [tkj,List.filter_append,List.filter_cons_of_neg (p:=fun p=>decide ((Lz p.2)[d]? = some c)) (a:=p),List.filter_nil,List.append_nil];intro z;have z:=of_decide_eq_true z;rw [List.getElem?_eq_getElem sz1] at z;refine e ?_;rw [Option.some.inj z];exact decide_eq_true rfl
     rw [eg];exact hM2
   rintro σ G3 ⟨⟨v1,v2,rfl⟩,s23,hM3⟩;have tkA:ts.take (as.map V.ref).length=ts:=by rw [List.length_map,asl,List.take_length]
   rw [tkA] at hM3;have S3:=sG.trans s23;have hTr3:=s23 _ _ hTr;obtain ⟨as',h1',h2',h3'⟩:=id hM3;refine ⟨_,rfl,_,.inl ⟨_,SqL.of h1',rfl⟩,bE (fun e=>?_) (fun e=>?_)⟩
   ·have ne:grp c d ts≠[]:=fun z=>by
     rw [z] at h2';rw [List.length_eq_zero_iff.mp h2'] at e;cases e
    have nempty:(grp c d ts).isEmpty=false:=by simpa using ne
    have szg:∀p∈grp c d ts,(Lz p.2).length≤(d + 1) + k:=fun p hp=>by
     have:=szk p (List.mem_filter.mp hp).1;omega
    refine ⟨_,rfl,.inl ⟨rfl,_,SqL.of hTr3⟩,_,rfl,_,rfl,_,rfl,_,rfl,_,_,rfl,rfl,S,M,cs,grp c d ts,d + 1,by push_cast; rfl,by omega,S3 _ _ hS,c6,hM3,szg,?_⟩;rcases g.next ne with ⟨n,z,eg,ez⟩ | g3
    ·refine .inl ⟨n,z,eg,ez,?_⟩;have s34:Same G3 G3:=Same.refl _;refine ⟨s100 (show 2≤100 by decide),?_⟩
     (intro tt gtt; generalize hEq:upd _ tt _=G5; refine aZ hEq gtt ?_; clear hEq; intro S5 e5 o5)
     have S35:Same G3 G5:=s34.trans S5;have hTr5:G5 Tr=some (.lst (rows.map fun r=>V.ref r.t)):=S35 _ _ hTr3;have rl:rows.length≤cs.length:=by
      have e:=congrArg List.length hc;rw [List.length_map] at e;have:=List.length_filter_le (fun c=>!(grp c d ts).isEmpty) (cs.take i);rw [List.length_take] at this;omega
     have nTr:∀b∈([]:List Addr),b≠Tr:=fun b hb z=>by rw [z] at hb; cases hb
     have kT:∀b xs,G5 b=some (.tup xs)→(upd G5 Tr (.lst ((rows.map fun r=>V.ref r.t) ++ [V.ref tt]))) b=some (.tup xs):=fun b xs h=>by rw [am (fun z=>by rw [z,hTr5] at h; cases h)]; exact h
     refine ⟨Tr,_,_,rfl,rfl,hTr5,?_,_,_,rows ++ [⟨c,tt,(V.int (n:Int)),([]:List Addr)⟩],rfl,fun u o h=>?_,?_,?_,?_,?_,?_⟩
     ·rw [List.length_map];exact Nat.lt_of_le_of_lt (show rows.length≤10 by omega) (by decide)
     ·rw [am (ak h gTr)];exact S35 _ _ (S3 _ _ h)
     ·rw [ai,List.map_append]; rfl
     ·rw [tk,List.filter_append,List.filter_cons_of_pos (p:=fun c=>!(grp c d ts).isEmpty) (a:=c) (by rw [nempty]; rfl),List.map_append,hc]; rfl
     ·intro r hr;rcases List.mem_append.mp hr with hr | hr
      ·have ro:=rok r hr;have nin:Tr∉r.fp:=fun z=>(List.nodup_cons.mp nd).1 (List.mem_flatMap.mpr ⟨r,hr,z⟩);exact (ro.keep (fun b hb o h=>S35 _ _ (s23 _ _ h)) (fun b xs h=>S35 _ _ (s23 _ _ h))).keep (fun b hb o h=>by rw [am (show b≠Tr from fun z=>nin (by rw [← z]; exact hb))]; exact h) kT
      ·rw [List.mem_singleton.mp hr];refine ⟨kT _ _ e5,?_⟩;exact .inl ⟨n,z,eg,ez,rfl,rfl⟩
     ·rw [List.flatMap_append,← List.cons_append];refine List.nodup_append.mpr ⟨nd,?_,fun a ha b hb e=>?_⟩
      ·rw [List.flatMap_cons,List.flatMap_nil,List.append_nil];exact List.nodup_nil
      ·rw [List.flatMap_cons,List.flatMap_nil,List.append_nil] at hb;have hb:b∈([]:List Addr):=hb;subst e;rcases List.mem_cons.mp ha with rfl | ha
       ·exact nTr _ hb rfl
       ·obtain ⟨r,hr,ha⟩:=List.mem_flatMap.mp ha;obtain ⟨ys,hy⟩:=(rok r hr).lists a ha;cases hb
     ·intro b hb;rw [List.flatMap_append] at hb;rcases List.mem_append.mp hb with hb | hb
      ·exact fr b hb
      ·rw [List.flatMap_cons,List.flatMap_nil,List.append_nil] at hb;exact S3.free (by cases hb)
    ·refine .inr ⟨g3,fun L3 fp G4 s34 br fr3=>?_⟩;refine ⟨s100 (show 2≤100 by decide),?_⟩
     (intro tt gtt; generalize hEq:upd _ tt _=G5; refine aZ hEq gtt ?_; clear hEq; intro S5 e5 o5)
     have S35:Same G3 G5:=s34.trans S5;have hTr5:G5 Tr=some (.lst (rows.map fun r=>V.ref r.t)):=S35 _ _ hTr3;have rl:rows.length≤cs.length:=by
      have e:=congrArg List.length hc;rw [List.length_map] at e;have:=List.length_filter_le (fun c=>!(grp c d ts).isEmpty) (cs.take i);rw [List.length_take] at this;omega
     have nTr:∀b∈fp,b≠Tr:=fun b hb z=>by rw [z] at hb; have:=fr3 _ hb; rw [hTr3] at this; cases this
     have kT:∀b xs,G5 b=some (.tup xs)→(upd G5 Tr (.lst ((rows.map fun r=>V.ref r.t) ++ [V.ref tt]))) b=some (.tup xs):=fun b xs h=>by rw [am (fun z=>by rw [z,hTr5] at h; cases h)]; exact h
     refine ⟨Tr,_,_,rfl,rfl,hTr5,?_,_,_,rows ++ [⟨c,tt,(V.ref L3),fp⟩],rfl,fun u o h=>?_,?_,?_,?_,?_,?_⟩
     ·rw [List.length_map];exact Nat.lt_of_le_of_lt (show rows.length≤10 by omega) (by decide)
     ·rw [am (ak h gTr)];exact S35 _ _ (S3 _ _ h)
     ·rw [ai,List.map_append]; rfl
     ·rw [tk,List.filter_append,List.filter_cons_of_pos (p:=fun c=>!(grp c d ts).isEmpty) (a:=c) (by rw [nempty]; rfl),List.map_append,hc]; rfl
     ·intro r hr;rcases List.mem_append.mp hr with hr | hr
      ·have ro:=rok r hr;have nin:Tr∉r.fp:=fun z=>(List.nodup_cons.mp nd).1 (List.mem_flatMap.mpr ⟨r,hr,z⟩);exact (ro.keep (fun b hb o h=>S35 _ _ (s23 _ _ h)) (fun b xs h=>S35 _ _ (s23 _ _ h))).keep (fun b hb o h=>by rw [am (show b≠Tr from fun z=>nin (by rw [← z]; exact hb))]; exact h) kT
      ·rw [List.mem_singleton.mp hr];refine ⟨kT _ _ e5,?_⟩;exact .inr ⟨g3,L3,rfl,BrV.keep (BrV.keep br (fun b hb o h=>S5 _ _ h) (fun b xs h=>S5 _ _ h)) (fun b hb o h=>by rw [am (nTr b hb)]; exact h) kT⟩
     ·rw [List.flatMap_append,← List.cons_append];refine List.nodup_append.mpr ⟨nd,?_,fun a ha b hb e=>?_⟩
      ·rw [List.flatMap_cons,List.flatMap_nil,List.append_nil];exact br.nodup
      ·rw [List.flatMap_cons,List.flatMap_nil,List.append_nil] at hb;have hb:b∈fp:=hb;subst e;rcases List.mem_cons.mp ha with rfl | ha
       ·exact nTr _ hb rfl
       ·obtain ⟨r,hr,ha⟩:=List.mem_flatMap.mp ha;obtain ⟨ys,hy⟩:=(rok r hr).lists a ha;have:=fr3 _ hb;rw [s23 _ _ hy] at this; cases this
     ·intro b hb;rw [List.flatMap_append] at hb;rcases List.mem_append.mp hb with hb | hb
      ·exact fr b hb
      ·rw [List.flatMap_cons,List.flatMap_nil,List.append_nil] at hb;exact S3.free (fr3 _ hb)
   ·have emp:grp c d ts=[]:=by
     have:as'=[]:=by
      cases as' with
      | nil=>rfl
      | cons a as'=>exact absurd rfl e
     rw [this] at h2';exact List.length_eq_zero_iff.mp h2'.symm
    refine ⟨_,_,rows,rfl,S3,hTr3,?_,fun r hr=>(rok r hr).keep (fun b hb o h=>s23 _ _ h) (fun b xs h=>s23 _ _ h),nd,fr⟩;rw [tk,List.filter_append,List.filter_cons_of_neg (p:=fun c=>!(grp c d ts).isEmpty) (a:=c) (by rw [emp]; decide),List.filter_nil,List.append_nil,hc]
  ·rintro σ G ⟨v4,v5,rows,rfl,sG,hTr,hc,rok,nd,fr⟩;have tl:(txs (sgs cs)).length=cs.length:=by rw [aX]; unfold sgs; rw [List.length_map]
   rw [tl,List.take_length] at hc;refine ⟨_,rfl,q Tr (Tr :: rows.flatMap Rw.fp) G sG ⟨rows,hTr,hc,rok,rfl,nd⟩ fun b hb=>?_⟩;rcases List.mem_cons.mp hb with rfl | hb
   ·exact gTr
   ·exact fr b hb
theorem xq {k:Nat} {fR:Addr} {fdR:FuncData} {f:Addr} {fd:FuncData} (F:FunG K "node_of" "node_of" jZ .none f fd) (B:Bl mg)
  (GR:FnOk P w K mg base (CXE P w) (2 * k + 1) fR fdR ["signs","things","deep"] (va k)) (mR:mg "branches_of" = some (.ref fR)) (kR:PySem.W.keepIn K (.ref fR)=true) (bR:Binds K fdR ["signs","things","deep"] []):FnOk P w K mg base (CXE P w) (2 * k + 2) f fd ["signs","things","deep"] (vb k):=by
 refine F.zokN scNo (fun vs H Q E h=>?_) (fun cdv A outer s H vs Q E hr h=>?_)
 ·obtain ⟨S,Th,cs,ts,d,rfl,_⟩:=h;rfl
 ·obtain ⟨S,Th,cs,ts,d,rfl,hk,hS,c6,hT,szk,q⟩:=h;refine ⟨_,(ae (eL (aJ bi (zpv 1) ag (fun _ _=>rfl)) (df rfl (aE (aq (i:=3) scNo.nd rfl (Or.inl rfl)) (aE (aq (i:=4) scNo.nd rfl (Or.inl rfl)) bw))))
   (ae (aH (aA cz (au cD (by rfl) B.len PySem.boot_len (ac (zpv 4) aa)) (zpv 2) (aG _)) (ah (ay (zpv 3))) az)
   (ah (ay (aj GR hr (by rfl) mR kR bR .nil aw (ac (zpv 0) (ac (zpv 1) (ac (zpv 2) aa)))))))),?_⟩
  obtain ⟨as,hTh,asl,hel⟩:=id hT;have s100:∀{n:Nat},n≤100→n≤sizeLine:=fun h=>Nat.le_trans h (by decide);obtain ⟨p,hp0⟩:∃p,ts[0]? = some p:=by
   rcases q with ⟨n,z,e,_⟩ | ⟨g,_⟩
   ·exact ⟨_,by rw [e]; rfl⟩
   ·exact ⟨_,List.getElem?_eq_getElem (List.length_pos_iff.mpr g.ne)⟩
  have l0:=(List.getElem?_eq_some_iff.mp hp0).1;obtain ⟨a0,ha0⟩:∃a,as[0]? = some a:=⟨_,List.getElem?_eq_getElem (by omega)⟩;have h0:=hel 0 a0 p ha0 hp0;have hat:atI (as.map V.ref) 0=some (.ref a0):=by
   exact cY (j:=0) (by rw [List.getElem?_map,ha0]; rfl)
  have lp:p.2.length≤sizeLine:=by
   rcases q with ⟨n,z,e,ez,_⟩ | ⟨g,_⟩
   ·rw [e] at hp0;cases hp0;rw [← cJ];exact Nat.le_trans (szk (n,z) (by rw [e]; exact List.mem_singleton.mpr rfl)) hk
   ·rw [← cJ];exact s100 (Nat.le_trans (g.sz p (List.mem_of_getElem? hp0)).2.1 (by decide))
  refine ⟨_,rfl,Th,_,_,_,rfl,rfl,SqL.of hTh,hat,a0,_,rfl,SqT.of h0,rfl,_,_,rfl,_,_,rfl,rfl,?_⟩;refine ⟨_,rfl,p.2,rfl,lp,_,rfl,rfl,_,rfl,bE (fun e=>?_) (fun e=>?_)⟩
  ·have e:(p.2.length:Int)=(d:Int):=by
    have e:=of_decide_eq_true (p:=V.int (p.2.length:Int)=V.int (d:Int)) e;cases e; rfl
   rcases q with ⟨n,z,e',ez,q⟩ | ⟨g,_⟩
   ·rw [e'] at hp0;cases hp0;exact ⟨_,rfl,q⟩
   ·have:=(g.sz p (List.mem_of_getElem? hp0)).1;rw [cJ] at this;omega
  ·rcases q with ⟨n,z,e',ez,q⟩ | ⟨g,q⟩
   ·exfalso
    rw [e'] at hp0;cases hp0;refine e (decide_eq_true ?_);rw [← cJ,ez]
   ·exact ⟨_,rfl,_,rfl,_,rfl,S,Th,cs,ts,d,rfl,hk,hS,c6,hT,g,szk,q⟩
end
def enT:Nat→List Str→List (Nat × Str)
 | _,[]=>[]
 | i,x :: r=>(i,x) :: enT (i + 1) r
theorem nC:∀(i:Nat) (xs:List Str),(enT i xs).length=xs.length
 | _,[]=>rfl
 | i,x :: r=>by show (enT (i + 1) r).length + 1=_; rw [nC]; rfl
theorem jH:∀(i:Nat) (xs:List Str) (j:Nat),(enT i xs)[j]? = (xs[j]?).map fun x=>(i + j,x)
 | _,[],j=>by simp [enT]
 | i,x :: r,0=>rfl
 | i,x :: r,j + 1=>by
  show (enT (i + 1) r)[j]? = _;rw [jH,show i + 1 + j=i + (j + 1) by omega];rfl
theorem ie:∀(i:Nat) (xs:List Str),(enT i xs).map Prod.snd=xs
 | _,[]=>rfl
 | i,x :: r=>by show x :: (enT (i + 1) r).map Prod.snd=_; rw [ie]
theorem vc:∀(i:Nat) (xs:List Str),∀p∈enT i xs,i≤p.1
 | _,[],p,h=>by cases h
 | i,x :: r,p,h=>by
  rcases List.mem_cons.mp h with rfl | h
  ·exact Nat.le_refl _
  ·have:=vc (i + 1) r p h;omega
theorem rj:∀(i:Nat) (xs:List Str),(enT i xs).Pairwise fun p q=>p.1≠q.1
 | _,[]=>List.Pairwise.nil
 | i,x :: r=>List.pairwise_cons.mpr ⟨fun q hq e=>by
   have:=vc (i + 1) r q hq;dsimp only at e;omega,rj (i + 1) r⟩
theorem lZ {cs:List Nat} {bk:List Str} (b:Book cs bk):Good cs 0 (enT 0 bk):=by
 have mem:∀p∈enT 0 bk,p.2∈bk:=fun p hp=>by
  have:=List.mem_map_of_mem (f:=Prod.snd) hp;rw [ie] at this;exact this
 refine ⟨fun z=>b.ne (by rw [← ie 0 bk,z]; rfl),by rw [nC]; exact Nat.le_trans b.le (by decide),fun p hp=>?_,?_,fun p _ q _=>by rw [List.take_zero,List.take_zero]⟩
 ·obtain ⟨a,c,d⟩:=b.sz p.2 (mem p hp);exact ⟨by omega,c,d⟩
 ·have:=b.apart;rw [← ie 0 bk,List.pairwise_map] at this;exact this
section
variable {P:Program} {w:World} {K:PySem.W.Frag} {mg:Str→Option Value} {base:Heap}
theorem zz {f:Addr} {fd:FuncData} (F:FunG K "branches_of" "branches_of" cQ .none f fd):FnOk P w K mg base (CXE P w) 1 f fd ["signs","things","deep"] (va 0):=by
 refine F.zokN scBr (fun vs H Q E h=>?_) (fun cdv A outer s H vs Q E hr h=>?_)
 ·obtain ⟨S,Th,cs,ts,d,rfl,_⟩:=h;rfl
 ·exfalso
  obtain ⟨S,Th,cs,ts,d,rfl,hk,hS,c6,hT,g,szk,q⟩:=h;obtain ⟨p,hp⟩:=List.exists_mem_of_ne_nil _ g.ne;have:=szk p hp;have:=(g.sz p hp).1;omega
theorem vd {fB fN:Addr} {fdB fdN:FuncData} (FB:FunG K "branches_of" "branches_of" cQ .none fB fdB) (FN:FunG K "node_of" "node_of" jZ .none fN fdN) (B:Bl mg)
  (mB:mg "branches_of" = some (.ref fB)) (kB:PySem.W.keepIn K (.ref fB)=true) (bB:Binds K fdB ["signs","things","deep"] []) (mN:mg "node_of" = some (.ref fN)) (kN:PySem.W.keepIn K (.ref fN)=true) (bN:Binds K fdN ["signs","things","deep"] []) :
  ∀k,FnOk P w K mg base (CXE P w) (2 * k + 1) fB fdB ["signs","things","deep"] (va k)
 | 0=>zz FB
 | k + 1=>pb FB B (xq FN B (vd FB FN B mB kB bB mN kN bN k) mB kB bB) mN kN bN
theorem NewT.of {H H':Hp} {l:Addr} (k:Kp H H') (g:H' l=none):∀o,H l=some o→∃ps,o = .tbl ps:=fun o e=>Classical.byContradiction fun n=>by
 have:=k _ _ e fun ps z=>n ⟨ps,z⟩;rw [g] at this; cases this
def pf (T1 T2:Addr):Sp:=fun vs H Q _=>∃(t Bk:Addr) (cs:List Nat) (fs ps:List Str) (lg:Int) (bk:List Str),vs=[.ref t,.ref Bk]∧Tg H t cs fs ps lg∧Tab T1 H∧Tab T2 H∧H Bk=some (.lst (txs bk))∧Book cs bk∧
 ∀L fp H',Kp H H'→Tab T1 H'→Tab T2 H'→BrV cs H' 8 0 (enT 0 bk) L fp→(∀b∈fp,∀o,H b=some o→∃ps,o = .tbl ps)→Q (.ref L) H'
theorem Bn:FnScope ["tongue","book"] ["tongue","book"] (af hJ):=⟨rfl,rfl,rfl,by decide +kernel,rfl,by decide +kernel,by decide +kernel⟩
theorem sY {T1 T2:Addr} {f fL fO fR:Addr} {fd fdL fdO fdR:FuncData} (F:FunG K "tree_of" "tree_of" hJ .none f fd) (B:Bl mg)
  (GL:FnOk P w K mg base (CXE P w) 7 fL fdL ["thing"] (p6 T1 T2)) (mL:mg "look_at_tongue" = some (.ref fL)) (kL:PySem.W.keepIn K (.ref fL)=true) (bL:Binds K fdL ["thing"] [])
  (GO:FnOk P w K mg base (CXE P w) 1 fO fdO ["tongue"] (dU K)) (mO:mg "signs_of" = some (.ref fO)) (kO:PySem.W.keepIn K (.ref fO)=true) (bO:Binds K fdO ["tongue"] [])
  (GR:FnOk P w K mg base (CXE P w) 17 fR fdR ["signs","things","deep"] (va 8)) (mR:mg "branches_of" = some (.ref fR)) (kR:PySem.W.keepIn K (.ref fR)=true) (bR:Binds K fdR ["signs","things","deep"] []):FnOk P w K mg base (CXE P w) 18 f fd ["tongue","book"] (pf T1 T2):=by
 refine F.zokN Bn (fun vs H Q E h=>?_) (fun cdv A outer s H vs Q E hr h=>?_)
 ·obtain ⟨t,Bk,cs,fs,ps,lg,bk,rfl,_⟩:=h;rfl
 ·obtain ⟨t,Bk,cs,fs,ps,lg,bk,rfl,tg,t1,t2,hB,book,q⟩:=h;refine ⟨_,(ae (bK (aj GL (hr.mono (by decide)) (by rfl) mL kL bL .nil aw (ac (zpv 0) aa)))
   (ah (ay (aj GR hr (by rfl) mR kR bR .nil aw (bt (aj GO (hr.mono (by decide)) (by rfl) mO kO bO .nil aw (ac (zpv 0) aa)) (bt (sV rfl (by rfl) B.list (by rfl) B.enum (ac (zpv 1) aa)) (aM ag aa))))))),?_⟩
  refine ⟨_,rfl,t,cs,fs,ps,lg,rfl,tg,t1,t2,fun H1 k1 t1' t2'=>?_⟩;obtain ⟨S,Fr,Pp,xs,h1,h2,rows,h4,h5⟩:=(tg.kp k1).ex;refine ⟨_,rfl,t,S,_,_,_,xs,cs,rfl,SqT.of h1,h2,rows,tg.c6,fun l H2 fl s2 hl=>?_⟩;have hB2:=s2 _ _ (k1.lst hB);refine ⟨_,rfl,Bk,_,rfl,SqL.of hB2,fun L as H3 fL s3 hL lal hel=>?_⟩;have gd:=lZ book;refine ⟨l,L,cs,enT 0 bk,0,rfl,by decide,s3 _ _ hl,tg.c6,⟨as,hL,by rw [lal,nC,aX],fun j a p e1 e2=>?_⟩,gd,fun p hp=>by have:=(gd.sz p hp).2.1; omega,fun T fp H4 s4 br fr=>?_⟩
  ·rw [jH] at e2;obtain ⟨x,hx,e⟩:=Option.map_eq_some_iff.mp e2;cases e;have:=(hel j a (.str x) e1 (by unfold txs; rw [List.getElem?_map,hx]; rfl)).1;rw [this];show some (HO.tup [V.int (j:Int),V.str x])=some (HO.tup [V.int ((0 + j:Nat):Int),V.str x]);rw [Nat.zero_add]
  ·have S24:Same H1 H4:=(s2.trans s3).trans s4;exact q T fp H4 (k1.trans (Kp.same S24)) (t1'.same S24) (t2'.same S24) br fun b hb=>NewT.of (k1.trans (Kp.same (s2.trans s3))) (fr b hb)
theorem Bo:FnScope ["tongue","ahead","sign"] ["tongue","ahead","sign"] (af eZ):=⟨rfl,rfl,rfl,by decide +kernel,rfl,by decide +kernel,by decide +kernel⟩
theorem qf {f:Addr} {fd:FuncData} (F:FunG K "follows" "follows" eZ .none f fd):FnOk P w K mg base (CXE P w) 1 f fd ["tongue","ahead","sign"] fc:=by
 refine F.zokN Bo (fun vs H Q E h=>?_) (fun cdv A outer s H vs Q E hr h=>?_)
 ·obtain ⟨t,cs,fs,ps,lg,a,s,rfl,_⟩:=h;rfl
 ·obtain ⟨t,cs,fs,ps,lg,a,s',rfl,hg,la,ls,q⟩:=h;refine ⟨_,(ae (aH (aA cz (zpv 1) cj (aG _)) (ah (ay (bx cg (zpv 2) (aJ bj (zpv 0) ag (fun _ _=>rfl)) rfl))) az)
   (ah (ay (bx cg (aS cM (zpv 1) (zpv 2)) (aJ bj (zpv 0) ag (fun _ _=>rfl)) rfl)))),?_⟩
  obtain ⟨S,F',Pp,h1,h4,h5⟩:=qY hg;refine ⟨_,rfl,rfl,_,rfl,bE (fun e=>?_) (fun e=>?_)⟩
  ·have e':V.str a=V.str "":=of_decide_eq_true e;injection e' with e';refine ⟨_,rfl,_,rfl,t,_,_,_,rfl,rfl,SqT.of h1,rfl,F',_,rfl,.inl (SqL.of h4),rfl,cy _,?_⟩;have:di fs ps a s' = !inV (.str s') (txs fs):=by rw [dN]; unfold di; rw [if_pos e']
   rw [this] at q;exact q
  ·have ne:a≠"":=fun z=>e (decide_eq_true (by rw [z]));refine ⟨_,rfl,_,rfl,a,s',rfl,rfl,Nat.le_trans (show _≤200 by omega) (by decide),_,rfl,t,_,_,_,rfl,rfl,SqT.of h1,rfl,Pp,_,rfl,.inl (SqL.of h5),rfl,cy _,?_⟩;have:di fs ps a s' = !inV (.str (a ++ s')) (txs ps):=by rw [dN]; unfold di; rw [if_neg ne]
   rw [this] at q;exact q
theorem scSt:FnScope ["tongue","thing","signs","ahead","sign"] ["tongue","thing"] (af hU):=⟨rfl,rfl,rfl,by decide +kernel,rfl,by decide +kernel,by decide +kernel⟩
theorem sZ {f fO fF:Addr} {fd fdO fdF:FuncData} (F:FunG K "stands" "stands" hU .none f fd) (B:Bl mg)
  (GO:FnOk P w K mg base (CXE P w) 1 fO fdO ["tongue"] (dU K)) (mO:mg "signs_of" = some (.ref fO)) (kO:PySem.W.keepIn K (.ref fO)=true) (bO:Binds K fdO ["tongue"] [])
  (GF:FnOk P w K mg base (CXE P w) 1 fF fdF ["tongue","ahead","sign"] fc) (mF:mg "follows" = some (.ref fF)) (kF:PySem.W.keepIn K (.ref fF)=true) (bF:Binds K fdF ["tongue","ahead","sign"] []) :
  FnOk P w K mg base (CXE P w) 2 f fd ["tongue","thing"] ff:=by
 refine F.zokN scSt (fun vs H Q E h=>?_) (fun cdv A outer s H vs Q E hr h=>?_)
 ·obtain ⟨t,cs,fs,ps,lg,x,rfl,_⟩:=h;rfl
 ·obtain ⟨t,cs,fs,ps,lg,x,rfl,hg,hx,len,q⟩:=h;refine ⟨_,(ae (aH (be (aR (aI (au aV (by rfl) B.isi aW (ac (zpv 1) (ac (ba (by rfl) B.str boot_str (v:=.ty "str") rfl) aa)))))
     (bh (aA ii (au cD (by rfl) B.len PySem.boot_len (ac (zpv 1) aa)) (aJ bj (zpv 0) ag (fun _ _=>rfl)) (aG _)))).pt (ah (ay bQ)) az)
   (ae (ax (i:=2) scSt.nd rfl (Or.inl rfl) (aj GO hr (by rfl) mO kO bO .nil aw (ac (zpv 0) aa)))
   (ae (ax (i:=3) scSt.nd rfl (Or.inl rfl) cj)
   (ae (cE PassesOwn.never rfl (qQ (zpv 1)) (aq (i:=4) scSt.nd rfl (Or.inl rfl))
     (ae (aH (be (aA cg (zpv 4) (zpv 2) rfl) (bh (aR (aI (aj GF hr (by rfl) mF kF bF .nil aw (ac (zpv 0) (ac (zpv 3) (ac (zpv 4) aa)))))))).pt (ah (ay bQ)) az)
   (ah (ax (i:=3) scSt.nd rfl (Or.inl rfl) (zpv 4)))))
   (ah (ay bQ)))))),?_⟩
  obtain ⟨ty,tyx,e1⟩:=hx.tyS (K:=K);refine ⟨_,rfl,_,_,ty,isS x,rfl,tyx,.inl ⟨_,rfl,e1⟩,_,rfl,?_⟩;have s0:Same H H:=fun _ _ e=>e;cases x with
  | str z=>
   obtain ⟨S,F',Pp,xs,h1,h2,h3,h4,h5⟩:=hg.ex;refine aU ⟨_,rfl,z,rfl,len z rfl,_,rfl,t,_,_,_,rfl,rfl,SqT.of h1,rfl,_,_,rfl,rfl,_,rfl,?_⟩;refine bE (fun e=>?_) (fun e=>?_)
   ·have g:=of_decide_eq_true e;have:stB cs fs ps lg (.str z)=false:=by
     have:decide ((z.length:Int)≤lg)=false:=decide_eq_false (by omega);simp [stB,this]
    have:=this ▸ q H s0;exact this
   ·have le:(z.length:Int)≤lg:=by
     have:¬(lg < (z.length:Int)):=fun y=>e (decide_eq_true y);omega
    refine ⟨_,rfl,t,S,_,_,_,xs,cs,rfl,SqT.of h1,h2,h3,hg.c6,fun l H1 hl s1 hl1=>?_⟩;have tg1:=hg.kp (Kp.same s1);have st:stB cs fs ps lg (.str z)=(List.range z.cps.size).all (dO cs fs ps z):=by simp [stB,le]
    refine ⟨_,rfl,z,rfl,wZ (x:=z)
     (fun i σ H2=>H2=H1∧(∃v,σ=[some (.ref t),some (.str z),some (.ref l),some (.str (prv z i)),v])∧∀j,j < i→dO cs fs ps z j=true) ⟨rfl,⟨_,rfl⟩,fun j hj=>absurd hj (Nat.not_lt_zero _)⟩ ?_ ?_⟩
    ·rintro i c σ H2 hc ⟨rfl,⟨v,rfl⟩,ok⟩;have ilt:i < z.cps.size:=(Array.getElem?_eq_some_iff.mp hc).1;have oka:dO cs fs ps z i=(decide (sg1 c∈sgs cs) && di fs ps (prv z i) (sg1 c)):=by unfold dO; rw [hc]
     have bad:dO cs fs ps z i=false→Q (.bl false) H2:=fun hb=>by
      have:stB cs fs ps lg (.str z)=false:=by rw [st]; exact qW ilt hb
      have:=this ▸ q H2 s1;exact this
     refine ⟨_,rfl,_,rfl,l,_,rfl,.inl (SqL.of hl1),rfl,cy _,_,rfl,?_⟩;have m1:inV (.str ⟨#[c]⟩) (txs (sgs cs))=decide (sg1 c∈sgs cs):=dN _ _;refine bE (fun e=>?_) (fun e=>?_)
     ·refine bc (bad ?_);have:(!inV (.str ⟨#[c]⟩) (txs (sgs cs)))=true:=e;rw [m1] at this;rw [oka,show decide (sg1 c∈sgs cs)=false by simpa using this]; rfl
     ·have mem:decide (sg1 c∈sgs cs)=true:=by
       have:¬((!inV (.str ⟨#[c]⟩) (txs (sgs cs)))=true):=e;rw [m1] at this
       simpa using this
      refine ⟨_,rfl,_,rfl,_,rfl,t,cs,fs,ps,lg,prv z i,sg1 c,rfl,tg1,Nat.le_trans (qX z i) (by decide),(by show (1:Nat)≤100; decide),_,rfl,?_⟩;cases hcm:di fs ps (prv z i) (sg1 c) with
      | false=>exact bc (bad (by rw [oka,hcm,Bool.and_false]))
      | true=>
       refine aU ⟨_,rfl,rfl,⟨_,by rw [oU hc]; rfl⟩,fun j hj=>?_⟩;rcases Nat.lt_or_ge j i with h | h
       ·exact ok j h
       ·have:j=i:=by omega
        subst this;rw [oka,mem,hcm]; rfl
    ·rintro σ H2 ⟨rfl,⟨v,rfl⟩,ok⟩;have:stB cs fs ps lg (.str z)=true:=by rw [st]; exact iT ok
     have:=this ▸ q H2 s1;exact this
  | _=>exact bc (bc (q H s0))
def rk:Sp:=fun vs H Q _=>∃(t:Addr) (xs:List V) (cs:List Nat),vs=[.ref t]∧TgX H t xs cs∧cs.Nodup∧cs.length≤6∧∀D kvs H',H D=none→Same H H'→H' D=some (.dK kvs)→(∀(i:Nat) (x:V) (c:Nat),xs[i]? = some x→cs[i]? = some c→cW kvs (Sum.inr (sg1 c):Key)=some (cS H x))→Q (.ref D) H'
theorem Bp:FnScope ["tongue"] ["tongue"] (af iA):=⟨rfl,rfl,rfl,by decide +kernel,rfl,by decide +kernel,by decide +kernel⟩
theorem nd3:List.Nodup [("sign" : Str),"price","last"]:=by decide +kernel
theorem vf {f:Addr} {fd:FuncData} (F:FunG K "lasts_of" "lasts_of" iA .none f fd):FnOk P w K mg base (CXE P w) 1 f fd ["tongue"] rk:=by
 refine F.zokN Bp (fun vs H Q E h=>?_) (fun cdv A outer s H vs Q E hr h=>?_)
 ·obtain ⟨t,xs,cs,rfl,_⟩:=h;rfl
 ·obtain ⟨t,xs,cs,rfl,hx,nd,c6,q⟩:=h;refine ⟨_,(ah (ay (nj ["tongue"] ["sign","price","last"] [] (af iA) rfl rfl rfl ⟨by decide +kernel,by decide +kernel,by decide +kernel,by decide +kernel,by decide +kernel⟩ (aQ (aJ bj (zpv 0) ag (fun _ _=>rfl)))
    (fun s H fp=>eC K 3 rfl rfl (aE (aq (i:=0) nd3 rfl (Or.inl rfl)) (aE (aq (i:=1) nd3 rfl (Or.inl rfl)) (aE (aq (i:=2) nd3 rfl (Or.inl rfl)) bw))))
    (fun s H fp=>bM) (fun s H fp=>zpv 0) (fun s H fp=>zpv 2)))),?_⟩
  obtain ⟨S,F',Pp,lg,h1,h2⟩:=hx.ex;refine ⟨_,rfl,t,_,_,_,rfl,rfl,SqT.of h1,rfl,S,rfl,⟨_,SqL.of h2⟩,fun D hD=>?_⟩;refine ⟨fun i m σ2 H2=>i≤cs.length∧m=cs.length - i∧(∃v1 v2 v3,σ2=[v1,v2,v3])∧(∃kvs:List (Key × V),H2 D=some (.dK kvs)∧kvs.length≤i∧∀(j:Nat) (x:V) (c:Nat),j < i→xs[j]? = some x→cs[j]? = some c→cW kvs (Sum.inr (sg1 c):Key)=some (cS H x))∧Same H H2,
   ⟨_,Nat.zero_le _,rfl,⟨_,_,_,rfl⟩,⟨[],ai,Nat.le_refl _,fun j _ _ hj=>absurd hj (Nat.not_lt_zero _)⟩,aF hD⟩,?_⟩
  rintro i m σ2 H2 ⟨hi,rfl,⟨v1,v2,v3,rfl⟩,⟨kvs,hD2,kl,ok⟩,s2⟩;have hS2:=s2 _ _ h2
  by_cases hlt:i < cs.length
  ·refine .inr ⟨⟨_,_,SqL.of hS2,List.getElem?_eq_getElem (show i < xs.length by rw [hx.rows.len]; exact hlt)⟩,?_⟩;rintro x H3 ⟨rfl,hxx⟩;have hxi:=hxx _ (SqL.of hS2);obtain ⟨cc,hc,row⟩:=hx.rows.at hxi;obtain ⟨a,p,rfl,ha,_⟩:=row.last;refine ⟨a,_,rfl,SqT.of (s2 _ _ ha),rfl,_,_,rfl,_,_,rfl,_,_,rfl,rfl,?_⟩;dsimp only;rw [if_pos rfl];refine ⟨_,rfl,_,rfl,Sum.inr (sg1 cc),kvs,rfl,hD2,Nat.lt_of_le_of_lt (show kvs.length≤6 by omega) (by decide),cs.length - (i + 1),by omega,hlt,rfl,⟨_,_,_,rfl⟩,⟨_,ai,?_,?_⟩,?_⟩
   ·have:=eG kvs (Sum.inr (sg1 cc):Key) (cS H (.ref a));omega
   ·intro j y d hj hy hd;rw [uC]
    by_cases e:(Sum.inr (sg1 d):Key)=Sum.inr (sg1 cc)
    ·rw [if_pos e];have e':d=cc:=dM (Sum.inr.inj e);subst e';have:=yh nd hc hd;subst this;rw [hxi] at hy; cases hy;rfl
    ·rw [if_neg e];have:j≠i:=fun z=>e (by subst z; rw [hc] at hd; cases hd; rfl);exact ok j y d (by omega) hy hd
   ·intro b o hb;rw [am (ak hb hD)]; exact s2 b o hb
  ·have e:i=cs.length:=by omega
   subst e;refine .inl ⟨⟨_,SqL.of hS2,by rw [hx.rows.len]; exact Nat.le_refl _⟩,q D kvs H2 hD s2 hD2 fun j x c h3 h4=>ok j x c (List.getElem?_eq_some_iff.mp h4).1 h3 h4⟩
theorem Bq:FnScope ["tongue","thing"] ["tongue","thing"] (af hV):=⟨rfl,rfl,rfl,by decide +kernel,rfl,by decide +kernel,by decide +kernel⟩
theorem tj {f fS fL:Addr} {fd fdS fdL:FuncData} (F:FunG K "stands_as_word" "stands_as_word" hV .none f fd)
  (GS:FnOk P w K mg base (CXE P w) 2 fS fdS ["tongue","thing"] ff) (mS:mg "stands" = some (.ref fS)) (kS:PySem.W.keepIn K (.ref fS)=true) (bS:Binds K fdS ["tongue","thing"] [])
  (GL:FnOk P w K mg base (CXE P w) 1 fL fdL ["tongue"] rk) (mL:mg "lasts_of" = some (.ref fL)) (kL:PySem.W.keepIn K (.ref fL)=true) (bL:Binds K fdL ["tongue"] []) :
  FnOk P w K mg base (CXE P w) 3 f fd ["tongue","thing"] jm:=by
 refine F.zokN Bq (fun vs H Q E h=>?_) (fun cdv A outer s H vs Q E hr h=>?_)
 ·obtain ⟨t,xs,cs,fs,ps,lg,x,rfl,_⟩:=h;rfl
 ·obtain ⟨t,xs,cs,fs,ps,lg,x,rfl,hg,hx,tx,len,q⟩:=h;have hr1:Room 1 _:=hr.mono (by decide);refine ⟨_,(ae (aH (be (aR (aI (aj GS hr (by rfl) mS kS bS .nil aw (ac (zpv 0) (ac (zpv 1) aa))))) (bh (aA cz (zpv 1) cj (aG _)))).pt (ah (ay bQ)) az)
   (ah (ay (bx qA (j4 hr.units1 (aj GL hr1 (by rfl) mL kL bL .nil aw (ac (zpv 0) aa)) (aJ ja (zpv 1) (j1 i7 ag) (fun _ _=>rfl)) (fun _ _=>rfl)) hX (aG _))))),?_⟩
  refine ⟨_,rfl,_,rfl,t,cs,fs,ps,lg,x,rfl,hg,tx,len,fun H1 s1=>⟨_,rfl,?_⟩⟩;cases hst:stB cs fs ps lg x with
  | false=>
   have:=yj (H:=H) (xs:=xs) hst;have:=this ▸ q H1 s1;exact bc (bc this)
  | true=>
   cases x with
   | str z=>
    refine aU ⟨_,rfl,rfl,_,rfl,bE (fun e=>?_) (fun e=>?_)⟩
    ·have e':V.str z=V.str "":=of_decide_eq_true e;injection e' with e';subst e';have:=(u0 (H:=H) (xs:=xs) (cs:=cs) (fs:=fs) (ps:=ps) (lg:=lg)) ▸ q H1 s1;exact this
    ·have ne:z≠"":=fun y=>e (decide_eq_true (by rw [y]));have z0:0 < z.cps.size:=by
      rcases Nat.eq_zero_or_pos z.cps.size with h | h
      ·exact absurd (str_nil.mpr h) ne
      ·exact h
     obtain ⟨c,hc,hat⟩:=qZ z0;obtain ⟨i,hi⟩:=xj hst z0 hc;have il:i < xs.length:=by rw [hx.rows.len]; exact (List.getElem?_eq_some_iff.mp hi).1
     have hxi:xs[i]? = some xs[i]:=List.getElem?_eq_getElem il;refine ⟨_,rfl,t,xs,cs,rfl,hx.kp (Kp.same s1),hg.nd,hg.c6,fun D kvs H2 hD s2 hD2 ok=>?_⟩;have row:=hx.rows.row i _ c hxi hi;refine ⟨_,rfl,_,rfl,z,-1,c,rfl,rfl,len z rfl,hat,D,cS H xs[i],rfl,?_,rfl,?_⟩
     ·have:cW kvs (Sum.inr (sg1 c):Key)=some (cS H xs[i]):=by rw [ok i _ c hxi hi,row.last_kp (Kp.same s1)]
      rw [← this];exact DGet.k (k:=Sum.inr (sg1 c)) hD2
     ·have:=u3 (H:=H) (xs:=xs) hst hc;rw [xi hg.nd hxi hi] at this;have:=this ▸ q H2 (s1.trans s2);exact this
   | _=>cases hst
end
theorem ph (n:Nat):(List.range n).all (fun _=>true)=true:=by simp
theorem nD {K:PySem.W.Frag} {H:Hp} {n:Nat} {a c:Addr} {xs ys:List V} (ha:SqL K H a xs) (hc:SqL K H c ys) (l:xs.length=ys.length) (h:∀(j:Nat) (x y:V),xs[j]? = some x→ys[j]? = some y→EqD K H n x y true):TopR K H (EqD K H n) (.ref a) (.ref c) true:=by
 have:=TopR.lsts (R:=EqD K H n) (fun _=>true) ha hc l h;rw [ph] at this; exact this
theorem nE {K:PySem.W.Frag} {H:Hp} {n:Nat} {a c:Addr} {xs ys:List V} (ha:SqT K H a xs) (hc:SqT K H c ys) (l:xs.length=ys.length) (h:∀(j:Nat) (x y:V),xs[j]? = some x→ys[j]? = some y→EqD K H n x y true):TopR K H (EqD K H n) (.ref a) (.ref c) true:=by
 have:=TopR.tups (R:=EqD K H n) (fun _=>true) ha hc h;rw [ph,l] at this
 simpa using this
theorem iC {K:PySem.W.Frag} {H:Hp} {n:Nat} {a c:Addr} (h:TopR K H (EqD K H n) (.ref a) (.ref c) true):EqD K H (n + 1) (.ref a) (.ref c) true:=by
 by_cases e:a=c
 ·subst e; exact .inl (.inr ⟨a,rfl,rfl,rfl⟩)
 ·exact .inr ⟨a,c,rfl,rfl,e,h⟩
theorem eE {K:PySem.W.Frag} {H:Hp} {x:V} (f:cA x=true):∀(n:Nat),EqD K H n x x true:=fun n=>by
 have e:eqV x x=true:=by
  cases x with
  | _=>first | (cases f; done) | simp [eqV]
 cases n with
 | zero=>exact .inl ⟨f,f,e.symm⟩
 | succ n=>exact .inl (.inl ⟨f,f,e.symm⟩)
theorem xt {K:PySem.W.Frag} {H:Hp} {a:Addr}:∀(n:Nat),EqD K H n (.ref a) (.ref a) true:=fun n=>by
 cases n with
 | zero=>exact .inr ⟨a,rfl,rfl,rfl⟩
 | succ n=>exact .inl (.inr ⟨a,rfl,rfl,rfl⟩)
theorem jo {ts:List Str}:∀y∈txs ts,cA y=true:=fun y hy=>by
 obtain ⟨z,_,rfl⟩:=List.mem_map.mp hy;rfl
theorem cU {K:PySem.W.Frag} {H:Hp} {n:Nat} {a c:Addr} {xs:List V} (ha:SqL K H a xs) (hc:SqL K H c xs) (f:∀y∈xs,cA y=true∨∃r,y = .ref r):TopR K H (EqD K H n) (.ref a) (.ref c) true:=
 nD ha hc rfl fun j x y hx hy=>by
  rw [hx] at hy; cases hy;rcases f x (List.mem_of_getElem? hx) with f | ⟨r,rfl⟩
  ·exact eE f n
  ·exact xt n
mutual
inductive TT where
 | num (n:Int)
 | yes
 | br (bs:Bs)
inductive Bs where
 | nil
 | cons (c:Nat) (t:TT) (bs:Bs)
end
def Bs.len:Bs→Nat
 | .nil=>0
 | .cons _ _ bs=>bs.len + 1
def Bs.cl:Bs→List Nat
 | .nil=>[]
 | .cons c _ bs=>c :: bs.cl
mutual
def IsT (H:Hp):TT→V→Prop
 | .num n,v=>v = .int n
 | .yes,v=>v = .bl true
 | .br bs,v=>∃(L:Addr) (as:List Addr),v = .ref L∧H L=some (.lst (as.map V.ref))∧IsB H bs as
def IsB (H:Hp):Bs→List Addr→Prop
 | .nil,as=>as=[]
 | .cons c t bs,as=>∃(a:Addr) (v:V) (rest:List Addr),as=a :: rest∧H a=some (.tup [.str (sg1 c),v])∧IsT H t v∧IsB H bs rest
end
mutual
theorem IsT.kp {H H':Hp} (k:Kp H H'):∀{t:TT} {v:V},IsT H t v→IsT H' t v
 | .num n,v,h=>h
 | .yes,v,h=>h
 | .br bs,v,⟨L,as,e,h,b⟩=>⟨L,as,e,k.lst h,IsB.kp k b⟩
theorem IsB.kp {H H':Hp} (k:Kp H H'):∀{bs:Bs} {as:List Addr},IsB H bs as→IsB H' bs as
 | .nil,as,h=>h
 | .cons c t bs,as,⟨a,v,r,e,h,x,b⟩=>⟨a,v,r,e,k.tup h,IsT.kp k x,IsB.kp k b⟩
end
theorem IsB.len {H:Hp}:∀{bs:Bs} {as:List Addr},IsB H bs as→as.length=bs.len
 | .nil,as,h=>by rw [show as=[] from h]; rfl
 | .cons c t bs,as,⟨a,v,r,e,h,x,b⟩=>by rw [e]; show r.length + 1=_; rw [IsB.len b]; rfl
mutual
def GT (cs:List Nat) (w:Nat):Nat→TT→Prop
 | _,.num _=>True
 | _,.yes=>True
 | d,.br bs=>0 < d∧bs.len≤w∧GB cs w (d - 1) bs
def GB (cs:List Nat) (w:Nat):Nat→Bs→Prop
 | _,.nil=>True
 | d,.cons c t bs=>c∈cs∧GT cs w d t∧GB cs w d bs
end
mutual
theorem GT.up {cs:List Nat} {w w' d d':Nat} (hw:w≤w') (hd:d≤d'):∀{t:TT},GT cs w d t→GT cs w' d' t
 | .num n,_=>trivial
 | .yes,_=>trivial
 | .br bs,⟨a,b,c⟩=>⟨by omega,by omega,GB.up hw (show d - 1≤d' - 1 by omega) c⟩
theorem GB.up {cs:List Nat} {w w' d d':Nat} (hw:w≤w') (hd:d≤d'):∀{bs:Bs},GB cs w d bs→GB cs w' d' bs
 | .nil,_=>trivial
 | .cons c t bs,⟨a,b,x⟩=>⟨a,GT.up hw hd b,GB.up hw hd x⟩
end
mutual
theorem IsT.alike {K:PySem.W.Frag} {H:Hp} {cs:List Nat} {w:Nat}:∀{t:TT} {v u:V} {d n:Nat},GT cs w d t→2 * d≤n→IsT H t v→IsT H t u→EqD K H n v u true
 | .num m,v,u,d,n,_,_,h1,h2=>by rw [show v = .int m from h1,show u = .int m from h2]; exact eE rfl n
 | .yes,v,u,d,n,_,_,h1,h2=>by rw [show v = .bl true from h1,show u = .bl true from h2]; exact eE rfl n
 | .br bs,v,u,d,n,⟨g1,g2,g3⟩,hn,⟨L,as,e,h,b⟩,⟨L',as',e',h',b'⟩=>by
  subst e; subst e';obtain ⟨n',rfl⟩:∃n',n=n' + 1:=⟨n - 1,by omega⟩;refine iC (nD (SqL.of h) (SqL.of h') (by rw [List.length_map,List.length_map,IsB.len b,IsB.len b']) fun j x y hx hy=>?_);rw [List.getElem?_map] at hx hy;obtain ⟨a,ha,rfl⟩:=Option.map_eq_some_iff.mp hx;obtain ⟨a',ha',rfl⟩:=Option.map_eq_some_iff.mp hy;exact IsB.alike g3 (by omega) b b' ha ha'
theorem IsB.alike {K:PySem.W.Frag} {H:Hp} {cs:List Nat} {w:Nat}:∀{bs:Bs} {as as':List Addr} {d n j:Nat} {a a':Addr},GB cs w d bs→2 * d + 1≤n→IsB H bs as→IsB H bs as'→as[j]? = some a→as'[j]? = some a'→EqD K H n (.ref a) (.ref a') true
 | .nil,as,as',d,n,j,a,a',_,_,h,_,e,_=>by rw [show as=[] from h] at e; simp at e
 | .cons c t bs,as,as',d,n,j,a,a',⟨g1,g2,g3⟩,hn,⟨b,v,r,e,h,x,y⟩,⟨b',v',r',e',h',x',y'⟩,ha,ha'=>by
  subst e; subst e';cases j with
  | zero=>
   cases ha; cases ha';obtain ⟨n',rfl⟩:∃n',n=n' + 1:=⟨n - 1,by omega⟩;refine iC (nE (SqT.of h) (SqT.of h') rfl fun j x1 y1 hx hy=>?_)
   match j,hx,hy with
   | 0,hx,hy=>cases hx; cases hy; exact eE rfl n'
   | 1,hx,hy=>cases hx; cases hy; exact IsT.alike g2 (by omega) x x'
   | j + 2,hx,hy=>simp at hx
  | succ j=>exact IsB.alike g3 hn y y' (by simpa using ha) (by simpa using ha')
end
section
variable (st wd:Str→Bool) (many:Nat) (cs:List Nat)
mutual
def rdN:TT→Str→List (Nat × Str)→Option (List (Nat × Str))
 | .num n,z,E=>if 0≤n∧n < many∧(E.all fun e=>decide ((e.1:Int)≠n))=true∧wd z=true then some (E ++ [(n.toNat,z)]) else none
 | .yes,_,_=>none
 | .br .nil,_,_=>none
 | .br (.cons c t bs),z,E=>rdB (.cons c t bs) z 0 E
def rdB:Bs→Str→Nat→List (Nat × Str)→Option (List (Nat × Str))
 | .nil,_,_,E=>some E
 | .cons c t bs,bg,l,E=>if cs.idxOf c < l∨st (bg ++ sg1 c)=false then none else
  match rdN t (bg ++ sg1 c) E with
  | none=>none
  | some E'=>rdB bs bg (cs.idxOf c + 1) E'
end
end
mutual
def lvN:TT→Str→List (Nat × Str)
 | .num n,z=>[(n.toNat,z)]
 | .yes,_=>[]
 | .br bs,z=>lvB bs z
def lvB:Bs→Str→List (Nat × Str)
 | .nil,_=>[]
 | .cons c t bs,bg=>lvN t (bg ++ sg1 c) ++ lvB bs bg
end
section
variable {st wd:Str→Bool} {many:Nat} {cs:List Nat}
theorem cV {c:Nat} {t:TT} {bs:Bs} {bg:Str} {l:Nat} {E E':List (Nat × Str)} (h:rdB st wd many cs (.cons c t bs) bg l E=some E'):l≤cs.idxOf c∧st (bg ++ sg1 c)=true∧∃E1,rdN st wd many cs t (bg ++ sg1 c) E=some E1∧rdB st wd many cs bs bg (cs.idxOf c + 1) E1=some E':=by
 rw [rdB] at h
 split at h
 ·cases h
 ·rename_i n
  have n1:¬cs.idxOf c < l:=fun z=>n (.inl z);have n2:st (bg ++ sg1 c)=true:=by
   cases e:st (bg ++ sg1 c) with
   | true=>rfl
   | false=>exact absurd (.inr e) n
  split at h
  ·cases h
  ·rename_i E1 e1
   exact ⟨by omega,n2,E1,e1,h⟩
theorem jI {n:Int} {z:Str} {E E':List (Nat × Str)} (h:rdN st wd many cs (.num n) z E=some E'):0≤n∧n < many∧(∀e∈E,(e.1:Int)≠n)∧wd z=true∧E'=E ++ [(n.toNat,z)]:=by
 rw [rdN] at h
 split at h
 ·rename_i c
  obtain ⟨a,b,d,e⟩:=c;cases h;exact ⟨a,b,fun x hx=>of_decide_eq_true (List.all_eq_true.mp d x hx),e,rfl⟩
 ·cases h
theorem jp {bs:Bs} {z:Str} {E E':List (Nat × Str)} (h:rdN st wd many cs (.br bs) z E=some E'):bs≠.nil∧rdB st wd many cs bs z 0 E=some E':=by
 cases bs with
 | nil=>rw [rdN] at h; cases h
 | cons c t bs=>rw [rdN] at h; exact ⟨nofun,h⟩
mutual
theorem qg:∀{t:TT} {z:Str} {E E':List (Nat × Str)},rdN st wd many cs t z E=some E'→E'=E ++ lvN t z
 | .num n,z,E,E',h=>by
  obtain ⟨_,_,_,_,e⟩:=jI h;exact e
 | .yes,z,E,E',h=>by rw [rdN] at h; cases h
 | .br bs,z,E,E',h=>vg (jp h).2
theorem vg:∀{bs:Bs} {bg:Str} {l:Nat} {E E':List (Nat × Str)},rdB st wd many cs bs bg l E=some E'→E'=E ++ lvB bs bg
 | .nil,bg,l,E,E',h=>by rw [rdB] at h; cases h; rw [lvB,List.append_nil]
 | .cons c t bs,bg,l,E,E',h=>by
  obtain ⟨_,_,E1,e1,e2⟩:=cV h;rw [vg e2,qg e1,lvB,List.append_assoc]
end
mutual
theorem jJ:∀{t:TT} {z:Str},∀p∈lvN t z,∃w,Lz p.2=Lz z ++ w
 | .num n,z,p,h=>by rw [lvN] at h; rw [List.mem_singleton.mp h]; exact ⟨[],by rw [List.append_nil]⟩
 | .yes,z,p,h=>by rw [lvN] at h; cases h
 | .br bs,z,p,h=>by
  rw [lvN] at h;obtain ⟨c,w,_,e⟩:=gh p h;exact ⟨c :: w,e⟩
theorem gh:∀{bs:Bs} {bg:Str},∀p∈lvB bs bg,∃c w,c∈bs.cl∧Lz p.2=Lz bg ++ c :: w
 | .nil,bg,p,h=>by rw [lvB] at h; cases h
 | .cons c t bs,bg,p,h=>by
  rw [lvB] at h;rcases List.mem_append.mp h with h | h
  ·obtain ⟨w,e⟩:=jJ p h;exact ⟨c,w,List.mem_cons_self,by rw [e,dz,List.append_assoc]; rfl⟩
  ·obtain ⟨c',w,hc,e⟩:=gh p h;exact ⟨c',w,List.mem_cons_of_mem _ hc,e⟩
end
mutual
theorem qh:∀{t:TT} {z:Str} {E E':List (Nat × Str)},rdN st wd many cs t z E=some E'→lvN t z≠[]
 | .num n,z,E,E',h=>by rw [lvN]; simp
 | .yes,z,E,E',h=>by rw [rdN] at h; cases h
 | .br bs,z,E,E',h=>by
  obtain ⟨ne,h⟩:=jp h;rw [lvN];exact zA ne h
theorem zA:∀{bs:Bs} {bg:Str} {l:Nat} {E E':List (Nat × Str)},bs≠.nil→rdB st wd many cs bs bg l E=some E'→lvB bs bg≠[]
 | .nil,bg,l,E,E',ne,h=>absurd rfl ne
 | .cons c t bs,bg,l,E,E',ne,h=>by
  obtain ⟨_,_,E1,e1,_⟩:=cV h;rw [lvB];intro z;exact qh e1 (List.append_eq_nil_iff.mp z).1
end
mutual
theorem qi:∀{t:TT} {z:Str} {E E':List (Nat × Str)},rdN st wd many cs t z E=some E'→∀p∈lvN t z,wd p.2=true∧p.1 < many
 | .num n,z,E,E',h,p,hp=>by
  obtain ⟨a,b,_,d,_⟩:=jI h;rw [lvN] at hp;rw [List.mem_singleton.mp hp];exact ⟨d,by dsimp only; omega⟩
 | .yes,z,E,E',h,p,hp=>by rw [lvN] at hp; cases hp
 | .br bs,z,E,E',h,p,hp=>by rw [lvN] at hp; exact vh (jp h).2 p hp
theorem vh:∀{bs:Bs} {bg:Str} {l:Nat} {E E':List (Nat × Str)},rdB st wd many cs bs bg l E=some E'→∀p∈lvB bs bg,wd p.2=true∧p.1 < many
 | .nil,bg,l,E,E',h,p,hp=>by rw [lvB] at hp; cases hp
 | .cons c t bs,bg,l,E,E',h,p,hp=>by
  obtain ⟨_,_,E1,e1,e2⟩:=cV h;rw [lvB] at hp;rcases List.mem_append.mp hp with hp | hp
  ·exact qi e1 p hp
  ·exact vh e2 p hp
end
theorem nF:∀{bs:Bs} {bg:Str} {l:Nat} {E E':List (Nat × Str)},rdB st wd many cs bs bg l E=some E'→(∀c∈bs.cl,l≤cs.idxOf c)∧bs.cl.Pairwise fun a b=>cs.idxOf a < cs.idxOf b
 | .nil,bg,l,E,E',h=>⟨fun c h=>(by cases h),List.Pairwise.nil⟩
 | .cons c t bs,bg,l,E,E',h=>by
  obtain ⟨h1,_,E1,_,e2⟩:=cV h;obtain ⟨a,b⟩:=nF e2;refine ⟨fun c' hc=>?_,List.pairwise_cons.mpr ⟨fun c' hc=>by have:=a c' hc; omega,b⟩⟩;rcases List.mem_cons.mp hc with rfl | hc
  ·exact h1
  ·have:=a c' hc; omega
mutual
theorem md:∀{t:TT} {z:Str} {E E':List (Nat × Str)},rdN st wd many cs t z E=some E'→(lvN t z).Pairwise fun p q=>dm p.2 q.2=false
 | .num n,z,E,E',h=>by rw [lvN]; exact List.pairwise_singleton _ _
 | .yes,z,E,E',h=>by rw [lvN]; exact List.Pairwise.nil
 | .br bs,z,E,E',h=>by rw [lvN]; exact me (jp h).2
theorem me:∀{bs:Bs} {bg:Str} {l:Nat} {E E':List (Nat × Str)},rdB st wd many cs bs bg l E=some E'→(lvB bs bg).Pairwise fun p q=>dm p.2 q.2=false
 | .nil,bg,l,E,E',h=>by rw [lvB]; exact List.Pairwise.nil
 | .cons c t bs,bg,l,E,E',h=>by
  obtain ⟨_,_,E1,e1,e2⟩:=cV h;have up:=(nF h).2;rw [lvB];refine List.pairwise_append.mpr ⟨md e1,me e2,fun p hp q hq=>?_⟩;obtain ⟨w,e3⟩:=jJ p hp;obtain ⟨c',w',hc,e4⟩:=gh q hq;rw [dz,List.append_assoc] at e3;have:=(List.pairwise_cons.mp up).1 c' hc;exact qd (t:=bg) (d:=c) (e:=c') (fun z=>by rw [z] at this; exact Nat.lt_irrefl _ this) e3 e4
end
end
theorem zB {cs:List Nat} (nd:cs.Nodup):cs.Pairwise fun a b=>cs.idxOf a < cs.idxOf b:=by
 rw [List.pairwise_iff_getElem];intro i j hi hj ij;rw [List.Nodup.idxOf_getElem nd,List.Nodup.idxOf_getElem nd];exact ij
theorem mf {R:Nat→Nat→Prop} (as:∀a b,R a b→¬R b a):∀{x y:List Nat},x.Pairwise R→y.Pairwise R→(∀a,a∈x↔a∈y)→x=y
 | [],y,_,_,h=>by
  cases y with
  | nil=>rfl
  | cons b y=>exact absurd ((h b).mpr List.mem_cons_self) (by simp)
 | a :: x,[],_,_,h=>absurd ((h a).mp List.mem_cons_self) (by simp)
 | a :: x,b :: y,hx,hy,h=>by
  obtain ⟨x1,x2⟩:=List.pairwise_cons.mp hx;obtain ⟨y1,y2⟩:=List.pairwise_cons.mp hy;have e:a=b:=by
   rcases List.mem_cons.mp ((h a).mp List.mem_cons_self) with e | m1
   ·exact e
   ·rcases List.mem_cons.mp ((h b).mpr List.mem_cons_self) with e | m2
    ·exact e.symm
    ·exact absurd (x1 b m2) (as _ _ (y1 a m1))
  subst e;have ir:¬R a a:=fun r=>as _ _ r r
  congr 1
  refine mf as x2 y2 fun c=>⟨fun hc=>?_,fun hc=>?_⟩
  ·rcases List.mem_cons.mp ((h c).mp (List.mem_cons_of_mem _ hc)) with e | m
   ·rw [e] at hc; exact absurd (x1 a hc) ir
   ·exact m
  ·rcases List.mem_cons.mp ((h c).mpr (List.mem_cons_of_mem _ hc)) with e | m
   ·rw [e] at hc; exact absurd (y1 a hc) ir
   ·exact m
section
variable {st wd:Str→Bool} {many:Nat} {cs:List Nat}
theorem xu {p bg:Str} {c:Nat} {w:List Nat} {d:Nat} (h:Lz p=Lz bg ++ c :: w) (hd:(Lz bg).length=d):(Lz p)[d]? = some c:=by
 rw [h,← hd,List.getElem?_append_right (Nat.le_refl _),Nat.sub_self]; rfl
theorem rm:∀{bs:Bs} {bg:Str} {l:Nat} {E E':List (Nat × Str)},rdB st wd many cs bs bg l E=some E'→∀c∈bs.cl,∃p∈lvB bs bg,∃w,Lz p.2=Lz bg ++ c :: w
 | .nil,bg,l,E,E',h,c,hc=>by cases hc
 | .cons c0 t bs,bg,l,E,E',h,c,hc=>by
  obtain ⟨_,_,E1,e1,e2⟩:=cV h;rcases List.mem_cons.mp hc with rfl | hc
  ·obtain ⟨p,hp⟩:=List.exists_mem_of_ne_nil _ (qh e1);obtain ⟨w,e⟩:=jJ p hp;exact ⟨p,by rw [lvB]; exact List.mem_append_left _ hp,w,by rw [e,dz,List.append_assoc]; rfl⟩
  ·obtain ⟨p,hp,w,e⟩:=rm e2 c hc;exact ⟨p,by rw [lvB]; exact List.mem_append_right _ hp,w,e⟩
theorem GB.mem {w d:Nat}:∀{bs:Bs},GB cs w d bs→∀c∈bs.cl,c∈cs
 | .nil,_,c,hc=>by cases hc
 | .cons c0 t bs,⟨a,_,b⟩,c,hc=>by
  rcases List.mem_cons.mp hc with rfl | hc
  ·exact a
  ·exact GB.mem b c hc
theorem IsB.cons_len {H:Hp} {bs:Bs} {as:List Addr} (h:IsB H bs as):as.length=bs.cl.length:=by
 rw [h.len];clear h
 induction bs using Bs.rec (motive_1:=fun _=>True) with
 | num=>trivial
 | yes=>trivial
 | br=>trivial
 | nil=>rfl
 | cons c t bs _ ih=>show bs.len + 1=bs.cl.length + 1; rw [ih]
variable {K:PySem.W.Frag} {H:Hp} {w:Nat}
mutual
theorem AB (nd:cs.Nodup):∀{t:TT} {z:Str} {E E':List (Nat × Str)} {dd k d n:Nat} {ts:List (Nat × Str)} {v u:V},rdN st wd many cs t z E=some E'→GT cs w dd t→2 * dd≤n→(Lz z).length=d→ts.Perm (lvN t z)→
  ((∃m z',ts=[(m,z')]∧(Lz z').length=d∧v = .int ((m:Nat):Int))∨(Good cs d ts∧∃L fp,v = .ref L∧BrV cs H k d ts L fp))→IsT H t u→EqD K H n v u true
 | .num m,z,E,E',dd,k,d,n,ts,v,u,h,_,_,hd,pm,nv,hu=>by
  obtain ⟨m0,_,_,_,_⟩:=jI h;rw [lvN] at pm;have e:=List.perm_singleton.mp pm;rw [show u = .int m from hu];rcases nv with ⟨m',z',e',ez,rfl⟩ | ⟨g,_⟩
  ·rw [e] at e';cases e';rw [show ((m.toNat:Nat):Int)=m by omega];exact eE rfl n
  ·have:=(g.sz (m.toNat,z) (by rw [e]; exact List.mem_singleton.mpr rfl)).1;dsimp only at this;omega
 | .yes,z,E,E',dd,k,d,n,ts,v,u,h,_,_,hd,pm,nv,hu=>by rw [rdN] at h; cases h
 | .br bs,z,E,E',dd,k,d,n,ts,v,u,h,⟨g1,g2,g3⟩,hn,hd,pm,nv,hu=>by
  obtain ⟨ne,hb⟩:=jp h;rw [lvN] at pm;obtain ⟨L',as,rfl,hL',hbs⟩:=hu;rcases nv with ⟨m',z',e',ez,rfl⟩ | ⟨g,L,fp,rfl,br⟩
  ·exfalso
   rw [e'] at pm;have:(m',z')∈lvB bs z:=pm.mem_iff.mp (List.mem_singleton.mpr rfl);obtain ⟨c,w',_,e⟩:=gh _ this;have:=congrArg List.length e;rw [List.length_append] at this;simp at this;omega
  ·cases k with
   | zero=>exact br.elim
   | succ k=>
    obtain ⟨rows,hL,hrc,hrok,hfp,hnd⟩:=br;have ec:rows.map Rw.c=bs.cl:=by
     rw [hrc];refine mf (R:=fun a b=>cs.idxOf a < cs.idxOf b) (fun a b h1 h2=>by omega) ((zB nd).filter _) (nF hb).2 fun c=>⟨fun hc=>?_,fun hc=>?_⟩
     ·obtain ⟨c1,c2⟩:=List.mem_filter.mp hc;have:grp c d ts≠[]:=by simpa using c2
      obtain ⟨p,hp⟩:=List.exists_mem_of_ne_nil _ this;obtain ⟨p1,p2⟩:=List.mem_filter.mp hp;obtain ⟨c',w',hc',e⟩:=gh p (pm.mem_iff.mp p1);have e2:=xu e hd;rw [of_decide_eq_true p2] at e2;cases e2;exact hc'
     ·obtain ⟨p,hp,w',e⟩:=rm hb c hc;refine List.mem_filter.mpr ⟨g3.mem c hc,?_⟩;have:p∈grp c d ts:=List.mem_filter.mpr ⟨pm.mem_iff.mpr hp,decide_eq_true (xu e hd)⟩;cases hh:grp c d ts with
      | nil=>rw [hh] at this; cases this
      | cons a b=>rfl
    obtain ⟨n',rfl⟩:∃n',n=n' + 1:=⟨n - 1,by omega⟩;refine iC (nD (SqL.of hL) (SqL.of hL') (by rw [List.length_map,List.length_map,hbs.cons_len,← ec,List.length_map]) fun j x y hx hy=>?_);rw [List.getElem?_map] at hx hy;obtain ⟨r,hr,rfl⟩:=Option.map_eq_some_iff.mp hx;obtain ⟨a,ha,rfl⟩:=Option.map_eq_some_iff.mp hy;exact AC nd hb g3 (by omega) hd ec hrok (fun c _=>pm.filter _) hbs ha hr
theorem AC (nd:cs.Nodup):∀{bs:Bs} {bg:Str} {l:Nat} {E E':List (Nat × Str)} {dd k d n:Nat} {ts:List (Nat × Str)} {rows:List Rw} {as:List Addr} {j:Nat} {a:Addr} {r:Rw},rdB st wd many cs bs bg l E=some E'→GB cs w dd bs→2 * dd + 1≤n→(Lz bg).length=d→
  rows.map Rw.c=bs.cl→(∀r∈rows,RowOk cs H k d ts r)→(∀c∈bs.cl,(grp c d ts).Perm (grp c d (lvB bs bg)))→IsB H bs as→as[j]? = some a→rows[j]? = some r→EqD K H n (.ref r.t) (.ref a) true
 | .nil,bg,l,E,E',dd,k,d,n,ts,rows,as,j,a,r,_,_,_,_,_,_,_,hb,ha,_=>by rw [show as=[] from hb] at ha; simp at ha
 | .cons c t bs,bg,l,E,E',dd,k,d,n,ts,[],as,j,a,r,_,_,_,_,ec,_,_,_,_,hr=>by simp at hr
 | .cons c t bs,bg,l,E,E',dd,k,d,n,ts,r0 :: rows,as,j,a,r,h,⟨g1,g2,g3⟩,hn,hd,ec,rok,pm,⟨a0,v0,rest,eas,h0,x0,b0⟩,ha,hr=>by
  subst eas;obtain ⟨_,_,E1,e1,e2⟩:=cV h;have ec1:r0.c=c∧rows.map Rw.c=bs.cl:=by
   have:r0.c :: rows.map Rw.c=c :: bs.cl:=ec;injection this with a b;exact ⟨a,b⟩
  have up:=(nF h).2;have inN:∀p∈lvN t (bg ++ sg1 c),(Lz p.2)[d]? = some c:=fun p hp=>by
   obtain ⟨w',e⟩:=jJ p hp;rw [dz,List.append_assoc] at e;exact xu e hd
  cases j with
  | zero=>
   cases ha; cases hr;obtain ⟨ht,nv⟩:=rok r0 List.mem_cons_self;obtain ⟨n',rfl⟩:∃n',n=n' + 1:=⟨n - 1,by omega⟩;refine iC (nE (SqT.of ht) (SqT.of h0) rfl fun j x1 y1 hx hy=>?_)
   match j,hx,hy with
   | 0,hx,hy=>cases hx; cases hy; rw [ec1.1]; exact eE rfl n'
   | 1,hx,hy=>
    cases hx; cases hy;have pmc:=pm c List.mem_cons_self;have eg:grp c d (lvB (.cons c t bs) bg)=lvN t (bg ++ sg1 c):=by
     rw [lvB];unfold grp;rw [List.filter_append,List.filter_eq_self.mpr (fun p hp=>decide_eq_true (inN p hp)),List.filter_eq_nil_iff.mpr (fun p hp z=>?_),List.append_nil];obtain ⟨c',w',hc',e⟩:=gh p hp;have e3:=xu e hd;rw [of_decide_eq_true z] at e3;cases e3;exact Nat.lt_irrefl _ ((List.pairwise_cons.mp up).1 c hc')
    rw [eg] at pmc;rw [ec1.1] at nv;refine AB nd e1 g2 (d:=d + 1) (by omega) (by rw [dz,List.length_append,hd]; rfl) pmc ?_ x0 (k:=k);rcases nv with ⟨m,z,q1,q2,q3,_⟩ | ⟨g,L',q1,q2⟩
    ·exact .inl ⟨m,z,q1,q2,q3⟩
    ·exact .inr ⟨g,L',_,q1,q2⟩
   | j + 2,hx,hy=>simp at hx
  | succ j=>
   refine AC nd e2 g3 hn hd ec1.2 (fun r hr=>rok r (List.mem_cons_of_mem _ hr)) (fun c' hc'=>?_) b0 (by simpa using ha) (by simpa using hr);have:=pm c' (List.mem_cons_of_mem _ hc');have eg:grp c' d (lvB (.cons c t bs) bg)=grp c' d (lvB bs bg):=by
    rw [lvB];unfold grp;rw [List.filter_append,List.filter_eq_nil_iff.mpr (fun p hp z=>?_),List.nil_append];have e3:=inN p hp;rw [of_decide_eq_true z] at e3;cases e3;exact Nat.lt_irrefl _ ((List.pairwise_cons.mp up).1 c hc')
   rw [eg] at this;exact this
end
end
section
variable (st wd:Str→Bool) (many:Nat) (lg:Int) (cs:List Nat)
mutual
def pgN:TT→Str→List (Nat × Str)→Option (List (Nat × Str))
 | .num n,z,E=>if 0≤n∧n < many∧(E.all fun e=>decide ((e.1:Int)≠n))=true∧wd z=true then some (E ++ [(n.toNat,z)]) else none
 | .yes,_,_=>none
 | .br .nil,_,_=>none
 | .br (.cons c t bs),z,E=>if (z.length:Int)=lg then none else pgB (.cons c t bs) z 0 E
def pgB:Bs→Str→Nat→List (Nat × Str)→Option (List (Nat × Str))
 | .nil,_,_,E=>some E
 | .cons c t bs,bg,l,E=>if cs.idxOf c < l then none else
  match pgN t (bg ++ sg1 c) E with
  | none=>none
  | some E'=>pgB bs bg (cs.idxOf c + 1) E'
end
end
section
variable {st wd:Str→Bool} {many:Nat} {lg:Int} {cs:List Nat}
theorem vi {c:Nat} {t:TT} {bs:Bs} {bg:Str} {l:Nat} {E E':List (Nat × Str)} (h:pgB wd many lg cs (.cons c t bs) bg l E=some E'):l≤cs.idxOf c∧∃E1,pgN wd many lg cs t (bg ++ sg1 c) E=some E1∧pgB wd many lg cs bs bg (cs.idxOf c + 1) E1=some E':=by
 rw [pgB] at h
 split at h
 ·cases h
 ·rename_i n
  split at h
  ·cases h
  ·rename_i E1 e1
   exact ⟨by omega,E1,e1,h⟩
mutual
theorem qj (hw:∀z,wd z=true→st z=true) (hp:∀z c,st (z ++ sg1 c)=true→st z=true):∀{t:TT} {z:Str} {E E':List (Nat × Str)},pgN wd many lg cs t z E=some E'→rdN st wd many cs t z E=some E'∧st z=true
 | .num n,z,E,E',h=>by
  rw [pgN] at h;refine ⟨by rw [rdN]; exact h,?_⟩
  split at h
  ·rename_i c
   exact hw z c.2.2.2
  ·cases h
 | .yes,z,E,E',h=>by rw [pgN] at h; cases h
 | .br .nil,z,E,E',h=>by rw [pgN] at h; cases h
 | .br (.cons c t bs),z,E,E',h=>by
  rw [pgN] at h
  split at h
  ·cases h
  ·obtain ⟨a,b⟩:=vj hw hp h;exact ⟨by rw [rdN]; exact a,b nofun⟩
theorem vj (hw:∀z,wd z=true→st z=true) (hp:∀z c,st (z ++ sg1 c)=true→st z=true):∀{bs:Bs} {bg:Str} {l:Nat} {E E':List (Nat × Str)},pgB wd many lg cs bs bg l E=some E'→rdB st wd many cs bs bg l E=some E'∧(bs≠.nil→st bg=true)
 | .nil,bg,l,E,E',h=>by rw [pgB] at h; exact ⟨by rw [rdB]; exact h,fun n=>absurd rfl n⟩
 | .cons c t bs,bg,l,E,E',h=>by
  obtain ⟨hl,E1,h1,h2⟩:=vi h;obtain ⟨a,b⟩:=qj hw hp h1;obtain ⟨d,_⟩:=vj hw hp h2;refine ⟨?_,fun _=>hp _ _ b⟩;rw [rdB,if_neg (by rw [b]; simp; omega),a];exact d
end
mutual
theorem vm (hl:∀z,st z=true→(z.length:Int)≤lg):∀{t:TT} {z:Str} {E E':List (Nat × Str)},rdN st wd many cs t z E=some E'→pgN wd many lg cs t z E=some E'
 | .num n,z,E,E',h=>by rw [rdN] at h; rw [pgN]; exact h
 | .yes,z,E,E',h=>by rw [rdN] at h; cases h
 | .br .nil,z,E,E',h=>by rw [rdN] at h; cases h
 | .br (.cons c t bs),z,E,E',h=>by
  rw [rdN] at h;obtain ⟨_,a,_⟩:=cV h;have:=hl _ a;have e:(z ++ sg1 c).length=z.length + 1:=by rw [← cJ,← cJ,dz,List.length_append]; rfl
  rw [pgN,if_neg (by omega)];exact vn hl h
theorem vn (hl:∀z,st z=true→(z.length:Int)≤lg):∀{bs:Bs} {bg:Str} {l:Nat} {E E':List (Nat × Str)},rdB st wd many cs bs bg l E=some E'→pgB wd many lg cs bs bg l E=some E'
 | .nil,bg,l,E,E',h=>by rw [rdB] at h; rw [pgB]; exact h
 | .cons c t bs,bg,l,E,E',h=>by
  obtain ⟨a,_,E1,h1,h2⟩:=cV h;rw [pgB,if_neg (by omega),vm hl h1];exact vn hl h2
end
theorem AD (hw:∀z,wd z=true→st z=true) (hp:∀z c,st (z ++ sg1 c)=true→st z=true) (hl:∀z,st z=true→(z.length:Int)≤lg) (t:TT) (z:Str) (E:List (Nat × Str)):pgN wd many lg cs t z E=rdN st wd many cs t z E:=by
 cases h:rdN st wd many cs t z E with
 | some E'=>exact vm hl h
 | none=>
  cases h2:pgN wd many lg cs t z E with
  | none=>rfl
  | some E'=>rw [(qj hw hp h2).1] at h; cases h
end
theorem zC {cs:List Nat} {fs ps:List Str} {lg:Int} {z:Str} {c:Nat} (h:stB cs fs ps lg (.str (z ++ sg1 c))=true):stB cs fs ps lg (.str z)=true:=by
 have h:(decide (((z ++ sg1 c).length:Int)≤lg) && (List.range (z ++ sg1 c).cps.size).all (dO cs fs ps (z ++ sg1 c)))=true:=h;obtain ⟨h1,h2⟩:=Bool.and_eq_true_iff.mp h;have h1:=of_decide_eq_true h1;have e:(z ++ sg1 c).length=z.length + 1:=by rw [← cJ,← cJ,dz,List.length_append]; rfl
 show (decide ((z.length:Int)≤lg) && (List.range z.cps.size).all (dO cs fs ps z))=true;rw [decide_eq_true (by omega),Bool.true_and];refine iT fun j hj=>?_;have o:=List.all_eq_true.mp h2 j (List.mem_range.mpr (by rw [dW]; omega));have pe:prv (z ++ sg1 c) j=prv z j:=by
  cases j with
  | zero=>rfl
  | succ i=>
   show (match (z ++ sg1 c:Str).cps[i]? with | some c=>sg1 c | none=>"")=(match z.cps[i]? with | some c=>sg1 c | none=>"");rw [gK z c (by omega)]
 unfold dO at o ⊢;rw [gK z c hj,pe] at o;exact o
theorem vo {cs:List Nat} {fs ps:List Str} {lg:Int} {z:Str} (h:stB cs fs ps lg (.str z)=true):(z.length:Int)≤lg:=by
 have h:(decide ((z.length:Int)≤lg) && (List.range z.cps.size).all (dO cs fs ps z))=true:=h;exact of_decide_eq_true (Bool.and_eq_true_iff.mp h).1
theorem yk {H:Hp} {xs:List V} {cs:List Nat} {fs ps:List Str} {lg:Int} {z:Str} (h:wdB H xs cs fs ps lg (.str z)=true):stB cs fs ps lg (.str z)=true:=by
 unfold wdB at h;exact (Bool.and_eq_true_iff.mp h).1
theorem vq {cs:List Nat} {fs ps:List Str} {lg:Int} {z:Str} (h:stB cs fs ps lg (.str z)=true):∀c∈Lz z,c∈cs:=fun c hc=>by
 have h:(decide ((z.length:Int)≤lg) && (List.range z.cps.size).all (dO cs fs ps z))=true:=h;obtain ⟨j,hj⟩:=List.getElem?_of_mem hc;have jl:=(List.getElem?_eq_some_iff.mp hj).1;have o:=List.all_eq_true.mp (Bool.and_eq_true_iff.mp h).2 j (List.mem_range.mpr (by unfold Lz at jl; simpa using jl));have hj':z.cps[j]? = some c:=by unfold Lz at hj; simpa using hj
 unfold dO at o;rw [hj'] at o;have:=of_decide_eq_true (Bool.and_eq_true_iff.mp o).1;unfold sgs at this;obtain ⟨d,hd,e⟩:=List.mem_map.mp this;rw [← dM e]; exact hd
def gO (E:List (Nat × Str)) (i:Nat):Str:=((E.find? fun e=>decide (e.1=i)).map (·.2)).getD ""
def jy (E:List (Nat × Str)) (many:Nat):List Str:=(List.range many).map (gO E)
theorem mh {E:List (Nat × Str)} (nd:E.Pairwise fun p q=>p.1≠q.1) {p:Nat × Str} (h:p∈E):(E.find? fun e=>decide (e.1=p.1))=some p:=by
 induction E with
 | nil=>cases h
 | cons q E ih=>
  obtain ⟨n1,n2⟩:=List.pairwise_cons.mp nd;rcases List.mem_cons.mp h with rfl | h
  ·rw [List.find?_cons_of_pos (by simp)]
  ·rw [List.find?_cons_of_neg (by simpa using n1 p h)];exact ih n2 h
theorem zD:∀{n:Nat} {l:List Nat},l.Nodup→(∀x∈l,x < n)→l.length=n→∀i,i < n→i∈l
 | 0,l,_,_,_,i,hi=>absurd hi (Nat.not_lt_zero _)
 | n + 1,l,nd,lt,len,i,hi=>by
  have sub:∀{n:Nat} {l:List Nat},l.Nodup→(∀x∈l,x < n)→l.length≤n:=by
   intro n
   induction n with
   | zero=>intro l _ h; cases l with
    | nil=>exact Nat.le_refl _
    | cons a l=>exact absurd (h a List.mem_cons_self) (Nat.not_lt_zero _)
   | succ n ih=>
    intro l nd h;have h1:=ih (l:=l.erase n) (nd.erase n) fun x hx=>by
     have:=h x (List.mem_of_mem_erase hx);have:=(nd.mem_erase_iff.mp hx).1;omega
    rw [List.length_erase] at h1
    split at h1 <;> omega
  apply Classical.byContradiction;intro ni;have h1:=sub (n:=n) (l:=l.map fun x=>if x=n then i else x) (by
   rw [List.nodup_iff_pairwise_ne,List.pairwise_map];refine (List.nodup_iff_pairwise_ne.mp nd).imp_of_mem fun {a b} ha hb ne=>?_;have:a≠i:=fun z=>ni (z ▸ ha);have:b≠i:=fun z=>ni (z ▸ hb)
   split <;> split <;> omega) fun x hx=>by
    obtain ⟨y,hy,rfl⟩:=List.mem_map.mp hx;have:=lt y hy;have yi:y≠i:=fun z=>ni (z ▸ hy);show (if y=n then i else y) < n
    split
    ·have:i≠n:=fun z=>by subst z; subst y; exact yi rfl
     omega
    ·omega
  rw [List.length_map] at h1;omega
theorem rp {E:List (Nat × Str)} {many:Nat} (nd:E.Pairwise fun p q=>p.1≠q.1) (lt:∀p∈E,p.1 < many) (len:E.length=many):(enT 0 (jy E many)).Perm E∧∀i,i < many→∃z,(i,z)∈E∧gO E i=z:=by
 have ndf:(E.map Prod.fst).Nodup:=by rw [List.nodup_iff_pairwise_ne,List.pairwise_map]; exact nd
 have at_:∀i,i < many→∃z,(i,z)∈E∧gO E i=z:=fun i hi=>by
  have:=zD ndf (fun x hx=>by obtain ⟨p,hp,rfl⟩:=List.mem_map.mp hx; exact lt p hp) (by rw [List.length_map,len]) i hi;obtain ⟨p,hp,rfl⟩:=List.mem_map.mp this;exact ⟨p.2,hp,by unfold gO; rw [mh nd hp]; rfl⟩
 refine ⟨(List.perm_ext_iff_of_nodup ?_ ?_).mpr fun p=>⟨fun hp=>?_,fun hp=>?_⟩,at_⟩
 ·rw [List.nodup_iff_pairwise_ne];exact (rj 0 _).imp fun h e=>h (by rw [e])
 ·rw [List.nodup_iff_pairwise_ne];exact nd.imp fun h e=>h (by rw [e])
 ·obtain ⟨j,hj⟩:=List.getElem?_of_mem hp;rw [jH] at hj;obtain ⟨x,hx,e⟩:=Option.map_eq_some_iff.mp hj;unfold jy at hx;rw [List.getElem?_map] at hx;obtain ⟨i,hi,rfl⟩:=Option.map_eq_some_iff.mp hx;have hi2:=(List.getElem?_eq_some_iff.mp hi).1;rw [List.length_range] at hi2;rw [List.getElem?_range hi2] at hi;cases hi;obtain ⟨z,hz,e2⟩:=at_ j hi2;rw [← e,Nat.zero_add,e2]; exact hz
 ·obtain ⟨z,hz,e2⟩:=at_ p.1 (lt p hp);have:z=p.2:=by
   rw [← e2]; unfold gO; rw [mh nd hp]; rfl
  refine List.mem_of_getElem? (i:=p.1) ?_;rw [jH];unfold jy;rw [List.getElem?_map,List.getElem?_range (lt p hp)];show some (0 + p.1,gO E p.1)=some p;rw [e2,this,Nat.zero_add]
theorem pi (E:List (Nat × Str)) (many:Nat):(jy E many).length=many:=by unfold jy; rw [List.length_map,List.length_range]
section
variable {st wd:Str→Bool} {many:Nat} {cs:List Nat}
mutual
theorem qk:∀{t:TT} {z:Str} {E E':List (Nat × Str)},(E.Pairwise fun p q=>p.1≠q.1)→rdN st wd many cs t z E=some E'→E'.Pairwise fun p q=>p.1≠q.1
 | .num n,z,E,E',hE,h=>by
  obtain ⟨a,_,b,_,rfl⟩:=jI h;refine List.pairwise_append.mpr ⟨hE,List.pairwise_singleton _ _,fun p hp q hq=>?_⟩;rw [List.mem_singleton.mp hq];have:=b p hp;dsimp only;omega
 | .yes,z,E,E',_,h=>by rw [rdN] at h; cases h
 | .br bs,z,E,E',hE,h=>vt hE (jp h).2
theorem vt:∀{bs:Bs} {bg:Str} {l:Nat} {E E':List (Nat × Str)},(E.Pairwise fun p q=>p.1≠q.1)→rdB st wd many cs bs bg l E=some E'→E'.Pairwise fun p q=>p.1≠q.1
 | .nil,bg,l,E,E',hE,h=>by rw [rdB] at h; cases h; exact hE
 | .cons c t bs,bg,l,E,E',hE,h=>by
  obtain ⟨_,_,E1,e1,e2⟩:=cV h;exact vt (qk hE e1) e2
end
end
theorem AE:∀{n:Nat} {l:List Nat},l.Nodup→(∀x∈l,x < n)→l.length≤n:=by
 intro n
 induction n with
 | zero=>intro l _ h; cases l with
  | nil=>exact Nat.le_refl _
  | cons a l=>exact absurd (h a List.mem_cons_self) (Nat.not_lt_zero _)
 | succ n ih=>
  intro l nd h;have h1:=ih (l:=l.erase n) (nd.erase n) fun x hx=>by
   have:=h x (List.mem_of_mem_erase hx);have:=(nd.mem_erase_iff.mp hx).1;omega
  rw [List.length_erase] at h1
  split at h1 <;> omega
structure InvE (many:Nat) (E:List (Nat × Str)):Prop where
 nd:E.Pairwise fun p q=>p.1≠q.1
 lt:∀p∈E,p.1 < many
theorem InvE.len {many:Nat} {E:List (Nat × Str)} (h:InvE many E):E.length≤many:=by
 have:=AE (n:=many) (l:=E.map Prod.fst) (by rw [List.nodup_iff_pairwise_ne,List.pairwise_map]; exact h.nd) fun x hx=>by
  obtain ⟨p,hp,rfl⟩:=List.mem_map.mp hx;exact h.lt p hp
 rwa [List.length_map] at this
theorem InvE.rd {st wd:Str→Bool} {many:Nat} {cs:List Nat} {t:TT} {z:Str} {E E':List (Nat × Str)} (i:InvE many E) (h:rdN st wd many cs t z E=some E'):InvE many E':=by
 refine ⟨qk i.nd h,fun p hp=>?_⟩;rw [qg h] at hp;rcases List.mem_append.mp hp with hp | hp
 ·exact i.lt p hp
 ·exact (qi h p hp).2
theorem xv {wd:Str→Bool} {many:Nat} {lg:Int} {cs:List Nat} {n:Int} {z:Str} {E:List (Nat × Str)}:pgN wd many lg cs (.num n) z E=if 0≤n∧n < many∧(E.all fun e=>decide ((e.1:Int)≠n))=true∧wd z=true then some (E ++ [(n.toNat,z)]) else none:=by rw [pgN]
theorem vy {st wd:Str→Bool} {many:Nat} {cs:List Nat} {n:Int} {z:Str} {E:List (Nat × Str)}:rdN st wd many cs (.num n) z E=if 0≤n∧n < many∧(E.all fun e=>decide ((e.1:Int)≠n))=true∧wd z=true then some (E ++ [(n.toNat,z)]) else none:=by rw [rdN]
theorem nG {H:Hp} {xs:List V} {cs:List Nat} {fs ps:List Str} {lg:Int} {many:Nat} {bs:Bs} {E:List (Nat × Str)} (h:rdN (fun z=>stB cs fs ps lg (.str z)) (fun z=>wdB H xs cs fs ps lg (.str z)) many cs (.br bs) "" []=some E) (len:E.length=many) (lg8:lg≤8) (m20:many≤20) :
  Book cs (jy E many)∧(enT 0 (jy E many)).Perm (lvN (.br bs) "")∧∀i,i < many→(i,gO E i)∈E:=by
 have e:=qg h;rw [List.nil_append] at e;have ok:=qi h;rw [← e] at ok ⊢;obtain ⟨pm,at_⟩:=rp (qk .nil h) (fun p hp=>(ok p hp).2) len;have ne:E≠[]:=by rw [e]; exact qh h
 have ap:=md h;rw [← e] at ap;refine ⟨⟨fun z=>?_,by rw [pi]; exact m20,fun z hz=>?_,?_⟩,pm,fun i hi=>?_⟩
 ·have:=pi E many;rw [z] at this;exact ne (List.length_eq_zero_iff.mp (by rw [len]; exact this.symm))
 ·rw [← ie 0 (jy E many)] at hz;obtain ⟨p,hp,rfl⟩:=List.mem_map.mp hz;have hp:=pm.mem_iff.mp hp;have w:=yk (ok p hp).1;have l:=vo w;rw [e,lvN] at hp;obtain ⟨c,w',_,e4⟩:=gh p hp;refine ⟨?_,by rw [cJ]; omega,vq w⟩;rw [e4,List.length_append,List.length_cons]; omega
 ·rw [← ie 0 (jy E many),List.pairwise_map];exact (pm.symm.pairwise ap fun {a b} h=>by rw [lV]; exact h)
 ·obtain ⟨z,hz,e2⟩:=at_ i hi;rw [e2]; exact hz
theorem vz {K:PySem.W.Frag} {H:Hp} {n:Nat} {a c:Addr} {as:List Addr} (h:EqD K H (n + 1) (.ref a) (.ref c) true) (hl:H a=some (.lst (as.map V.ref))):TopR K H (EqD K H n) (.ref a) (.ref c) true:=by
 by_cases e:a=c
 ·subst e;exact cU (SqL.of hl) (SqL.of hl) fun y hy=>by obtain ⟨r,_,rfl⟩:=List.mem_map.mp hy; exact .inr ⟨r,rfl⟩
 ·rcases h with h | ⟨a',c',e1,e2,_,h⟩
  ·rcases h with ⟨f,_⟩ | ⟨a',e1,e2,_⟩
   ·cases f
   ·cases e1; cases e2; exact absurd rfl e
  ·cases e1; cases e2; exact h
end G1
namespace L2
open PySem PySem.Spec PyProof.Rows
structure Other (K:PySem.W.Frag) (CN C:Addr):Prop where
 no:PySem.W.mroIn K CN (.ref C)=some false
 hd:PySem.W.hasDictIn K C=true
 ty:PySem.W.typeIn K (.ref C)=some (.type "type")
theorem Other.one {K:PySem.W.Frag} {CN C:Addr} (self:PySem.W.mroIn K CN (.ref CN)=some true) (o:Other K CN C):PySem.W.kitOne K (.ref CN) (.ref C)=some false:=by
 have ne:¬((Value.ref CN == Value.ref C)=true):=fun z=>by
  have e:CN=C:=Value.ref.inj (beq_iff_eq.mp z);have h:=o.no;rw [← e,self] at h;cases h
 obtain ⟨cd,q,_⟩:=PySem.W.any_some o.hd;unfold PySem.W.kitOne;rw [if_neg ne];show (if ((PySem.W.clsIn K C).isSome && PySem.W.typeIn K (.ref C) == some (.type "type"))=true then PySem.W.subIn K (.ref CN) (.ref C) else none)=some false;rw [if_pos (by rw [q,o.ty]; simp)];exact o.no
theorem Other.all {K:PySem.W.Frag} {CN:Addr} (self:PySem.W.mroIn K CN (.ref CN)=some true):∀{cs:List Addr},(∀C∈cs,Other K CN C)→PySem.W.kitAny K (.ref CN) (cs.map Value.ref)=some false
 | [],_=>rfl
 | c :: cs,h=>by
  show (match PySem.W.kitOne K (.ref CN) (.ref c) with | some true=>some true | some false=>PySem.W.kitAny K (.ref CN) (cs.map Value.ref) | none=>none)=some false;rw [(h c (by simp)).one self];exact Other.all self fun C hC=>h C (by simp [hC])
theorem vA {K:PySem.W.Frag} {C:Addr}:PySem.W.kitOne K (.ref C) (.ref C)=some true:=by
 unfold PySem.W.kitOne;rw [if_pos (by simp)]
theorem vB {K:PySem.W.Frag} {C:Addr} (h:PySem.W.mroIn K C (.type "ValueError")=some true):PySem.W.kitOne K (.ref C) (.type "ValueError")=some true:=by
 unfold PySem.W.kitOne;rw [if_neg (by simp)];show (if PySem.W.kitMeta "ValueError" = true then PySem.W.subIn K (.ref C) (.type "ValueError") else none)=some true;rw [if_pos (by decide +kernel)];exact h
theorem xy:bootBuiltins "ValueError" = some (.type "ValueError"):=by decide +kernel
end L2
namespace G1
open PySem L2 GM
structure Cl (K:PySem.W.Frag) (mg:Str→Option Value) (c:List Addr):Prop where
 len:c.length=15
 dear:mg "DearError" = some (.ref (c.getD 0 0))
 c1:mg "NoTree" = some (.ref (c.getD 1 0))
 c2:mg "NoBook" = some (.ref (c.getD 2 0))
 c3:mg "NoTongue" = some (.ref (c.getD 3 0))
 c4:mg "NoWants" = some (.ref (c.getD 4 0))
 c5:mg "NoTurn" = some (.ref (c.getD 5 0))
 c6:mg "TooMany" = some (.ref (c.getD 6 0))
 c7:mg "NoUndo" = some (.ref (c.getD 7 0))
 c8:mg "NoCount" = some (.ref (c.getD 8 0))
 c9:mg "NoNumber" = some (.ref (c.getD 9 0))
 c10:mg "NoRow" = some (.ref (c.getD 10 0))
 c11:mg "NoText" = some (.ref (c.getD 11 0))
 c12:mg "Unknown" = some (.ref (c.getD 12 0))
 c13:mg "NoThing" = some (.ref (c.getD 13 0))
 c14:mg "BadSign" = some (.ref (c.getD 14 0))
 exc:my K (c.getD 1 0)
 cls:ClsX K (c.getD 1 0)
 self:PySem.W.mroIn K (c.getD 1 0) (.ref (c.getD 1 0))=some true
 ve:PySem.W.mroIn K (c.getD 1 0) (.type "ValueError")=some true
 up:PySem.W.mroIn K (c.getD 1 0) (.ref (c.getD 0 0))=some true
 catch_:CatchK K (c.getD 0 0)
 oth:∀i,2≤i→i < 15→Other K (c.getD 1 0) (c.getD i 0)
def pr (p:Nat × Str):Key × V:=(Sum.inl (p.1:Int),V.str p.2)
theorem yl {cs:List Nat} {m:Nat} {z:V} (h:(txs (sgs cs))[m]? = some z):∃c,cs[m]? = some c∧z=V.str (sg1 c):=by
 unfold txs sgs at h;rw [List.getElem?_map,List.getElem?_map] at h;cases e:cs[m]? with
 | none=>rw [e] at h; cases h
 | some c=>rw [e] at h; cases h; exact ⟨c,rfl,rfl⟩
theorem vC {cs:List Nat} {c:Nat} (nd:cs.Nodup) (hc:c∈cs):(∃z,(txs (sgs cs))[cs.idxOf c]? = some z∧eqV z (.str (sg1 c))=true)∧∀(m:Nat) (z:V),m < cs.idxOf c→(txs (sgs cs))[m]? = some z→eqV z (.str (sg1 c))=false:=by
 have il:=List.idxOf_lt_length_of_mem hc;have e:cs[cs.idxOf c]? = some c:=by rw [List.getElem?_eq_getElem il,List.getElem_idxOf]
 refine ⟨⟨.str (sg1 c),by unfold txs sgs; rw [List.getElem?_map,List.getElem?_map,e]; rfl,by simp [eqV]⟩,fun m z hm hz=>?_⟩;obtain ⟨c',h1,rfl⟩:=yl hz;have ne:c'≠c:=fun q=>by
  subst q;have ml:=(List.getElem?_eq_some_iff.mp h1).1;rw [List.getElem?_eq_getElem ml] at h1;cases h1;rw [List.Nodup.idxOf_getElem nd] at hm;exact Nat.lt_irrefl _ hm
 have:sg1 c'≠sg1 c:=fun q=>ne (dM q);simp [eqV,this]
section
variable {P:Program} {w:World} {K:PySem.W.Frag} {mg:Str→Option Value} {base:Heap} {c:List Addr}
def mi (CN:Addr):Sp:=fun vs H Q _=>∃e,vs=[.ref e]∧H e=some (yQ CN e)∧∀H',Same H H'→Q (.bl true) H'
theorem Br:FnScope ["_law_kept"] ["_law_kept"] (af fb):=⟨rfl,rfl,rfl,by decide +kernel,rfl,by decide +kernel,by decide +kernel⟩
theorem ql {f:Addr} {fd:FuncData} (F:FunG K "_law_is_refusal" "_law_is_refusal" fb .none f fd) (B:Bl mg) (hve:mg "ValueError" = none) (C:Cl K mg c):FnOk P w K mg base (CXE P w) 1 f fd ["_law_kept"] (mi (c.getD 1 0)):=by
 refine F.zokN Br (fun vs H Q E h=>?_) (fun cdv A outer s H vs Q E hr h=>?_)
 ·obtain ⟨e,rfl,_⟩:=h;rfl
 ·obtain ⟨e,rfl,he,q⟩:=h;have ty:∀{H':Hp},Same H H'→TyX K H' (.ref e) (.ref (c.getD 1 0)):=fun s=>.exc (s _ _ he) C.cls;refine ⟨_,(ae (aH (SPW.pt (be (aR (aI (au aV (by rfl) B.isi aW (ac (zpv 0) (ac (bq (by rfl) C.c1 (v:=.ref _) rfl) aa))))) (bh (aR (aI (au aV (by rfl) B.isi aW (ac (zpv 0) (ac (ba (by rfl) hve xy (v:=.ty "ValueError") rfl) aa)))))))) (ah (ay bQ)) az)
   (ae (aH (aI (au aV (by rfl) B.isi aW (ac (zpv 0) (cu (aY (ac (bq (by rfl) C.c14 (v:=.ref _) rfl) (ac (bq (by rfl) C.c2 (v:=.ref _) rfl) (ac (bq (by rfl) C.c8 (v:=.ref _) rfl) (ac (bq (by rfl) C.c9 (v:=.ref _) rfl) (ac (bq (by rfl) C.c10 (v:=.ref _) rfl) (ac (bq (by rfl) C.c11 (v:=.ref _) rfl) (ac (bq (by rfl) C.c13 (v:=.ref _) rfl) aa)))))))) aa)))) (ah (ay bQ)) az)
   (ah (ay (wX (au aV (by rfl) B.isi aW (ac (zpv 0) (cu (aY (ac (bq (by rfl) C.c3 (v:=.ref _) rfl) (ac (bq (by rfl) C.c5 (v:=.ref _) rfl) (ac (bq (by rfl) C.c7 (v:=.ref _) rfl) (ac (bq (by rfl) C.c4 (v:=.ref _) rfl) (ac (bq (by rfl) C.c6 (v:=.ref _) rfl) (ac (bq (by rfl) C.c12 (v:=.ref _) rfl) aa))))))) aa)))))))),?_⟩
  have s0:Same H H:=Same.refl _;refine ⟨_,rfl,_,_,_,true,rfl,ty s0,.inl ⟨_,rfl,vA⟩,_,rfl,?_⟩;refine aU ⟨_,rfl,_,_,_,true,rfl,ty s0,.inl ⟨_,rfl,vB C.ve⟩,_,rfl,?_⟩;refine aU ?_;refine ⟨_,rfl,by show 7≤sizeLine; decide,fun t ht=>?_⟩;have s1:=aF (o:=.tup [.ref (c.getD 14 0),.ref (c.getD 2 0),.ref (c.getD 8 0),.ref (c.getD 9 0),.ref (c.getD 10 0),.ref (c.getD 11 0),.ref (c.getD 13 0)]) ht;refine ⟨_,_,_,false,rfl,ty s1,.inr ⟨t,_,[14,2,8,9,10,11,13].map (fun i=>Value.ref (c.getD i 0)),rfl,SqT.of ai,rfl,?_⟩,?_⟩
  ·exact Other.all (cs:=[14,2,8,9,10,11,13].map (fun i=>c.getD i 0)) C.self fun a ha=>by
    obtain ⟨i,hi,rfl⟩:=List.mem_map.mp ha;exact C.oth i (by simp at hi; omega) (by simp at hi; omega)
  refine ⟨_,rfl,aU ?_⟩;refine ⟨_,rfl,by show 6≤sizeLine; decide,fun t2 ht2=>?_⟩;have s2:=s1.trans (aF (o:=.tup [.ref (c.getD 3 0),.ref (c.getD 5 0),.ref (c.getD 7 0),.ref (c.getD 4 0),.ref (c.getD 6 0),.ref (c.getD 12 0)]) ht2);refine ⟨_,_,_,false,rfl,ty s2,.inr ⟨t2,_,[3,5,7,4,6,12].map (fun i=>Value.ref (c.getD i 0)),rfl,SqT.of ai,rfl,?_⟩,_,rfl,q _ s2⟩;exact Other.all (cs:=[3,5,7,4,6,12].map (fun i=>c.getD i 0)) C.self fun a ha=>by
   obtain ⟨i,hi,rfl⟩:=List.mem_map.mp ha;exact C.oth i (by simp at hi; omega) (by simp at hi; omega)
def nH (N:Addr):Sp:=fun vs H Q E=>∃(S a:Addr) (ts:List Str) (z:Str) (v:V),vs=[.ref S,.ref a]∧H S=some (.lst (txs ts))∧H a=some (.tup [.str z,v])∧((z∈ts∧Q (.ref a) H)∨(z∉ts∧E (.ref N) none H))
theorem Bt:FnScope ["signs","thing"] ["signs","thing"] (af jk):=⟨rfl,rfl,rfl,by decide +kernel,rfl,by decide +kernel,by decide +kernel⟩
theorem vD {N:Addr} {f:Addr} {fd:FuncData} (F:FunG K "look_at_branch" "look_at_branch" jk .none f fd) (B:Bl mg) (mN:mg "NoTree" = some (.ref N)) (eN:my K N):FnOk P w K mg base (CXE P w) 1 f fd ["signs","thing"] (nH N):=by
 refine F.zokE Bt (fun vs H Q E h=>?_) (fun cdv A outer s H vs Q E hr h=>?_)
 ·obtain ⟨S,a,ts,z,v,rfl,_⟩:=h;rfl
 ·obtain ⟨S,a,ts,z,v,rfl,hS,ha,alt⟩:=h;refine ⟨_,(ae (aH (SPW.pt (be (aR (aI (au aV (by rfl) B.isi aW (ac (zpv 1) (ac (ba (by rfl) B.tuple boot_tuple (v:=.ty "tuple") rfl) aa))))) (bh (aA kQ (au aN (by rfl) B.len PySem.boot_len (ac (zpv 1) aa)) ag (aG _))))) (ah (dS (E:=E) (fun pins σ H1 s1 h1 e args I hx hE=>eX I hx hE) rfl (by rfl) mN eN (aM cj aa))) az)
   (ae (aH (SPW.pt (be (aR (aI (au aV (by rfl) B.isi aW (cI (aJ bj (zpv 1) ag (fun _ _=>rfl)) (ac (ba (by rfl) B.str boot_str (v:=.ty "str") rfl) aa))))) (bh (aA cg (aJ bj (zpv 1) ag (fun _ _=>rfl)) (zpv 0) rfl)))) (ah (dS (E:=E) (fun pins σ H1 s1 h1 e args I hx hE=>eX I hx hE) rfl (by rfl) mN eN (aM cj aa))) az)
   (ah (ay (zpv 1))))),?_⟩
  refine ⟨_,rfl,_,_,_,true,rfl,.of (.tup ha),.inl ⟨_,rfl,kt1⟩,_,rfl,aU ?_⟩;refine ⟨_,rfl,a,_,rfl,.inr (SqT.of ha),rfl,_,rfl,aU ?_⟩;refine ⟨_,rfl,a,_,_,_,rfl,rfl,SqT.of ha,rfl,_,_,_,true,rfl,.of (.str z),.inl ⟨_,rfl,Az⟩,_,rfl,aU ?_⟩;refine ⟨_,rfl,a,_,_,_,rfl,rfl,SqT.of ha,rfl,_,rfl,S,_,rfl,.inl (SqL.of hS),rfl,cy _,_,rfl,?_⟩;rw [show inV (V.str z) (txs ts)=decide (z∈ts) from dN _ _];rcases alt with ⟨hz,q⟩ | ⟨hz,q⟩
  ·rw [decide_eq_true hz];exact aU ⟨_,rfl,q⟩
  ·rw [decide_eq_false hz];exact bc ⟨by decide,q⟩
theorem iW {E:List (Nat × Str)} {n:Int}:(cW (E.map pr) (Sum.inl n:Key)).isSome = !(E.all fun e=>decide ((e.1:Int)≠n)):=by
 induction E with
 | nil=>rfl
 | cons e E ih=>
  rw [List.map_cons,List.all_cons];unfold cW
  by_cases h:(e.1:Int)=n
  ·rw [List.find?_cons_of_pos (by show decide ((Sum.inl (e.1:Int):Key)=Sum.inl n)=true; rw [h]; simp),decide_eq_false (fun z=>z h)];rfl
  ·rw [List.find?_cons_of_neg (by show ¬decide ((Sum.inl (e.1:Int):Key)=Sum.inl n)=true; simp [h]),decide_eq_true h,Bool.true_and];exact ih
def qm (N:Addr):Sp:=fun vs H Q E=>∃(H0:Hp) (t D:Addr) (cs:List Nat) (fs ps:List Str) (lg:Int) (xs:List V) (many:Nat) (n:Int) (z:Str) (Es:List (Nat × Str)),vs=[.ref t,.int many,.int n,.str z,.ref D]∧Same H0 H∧H0 D=none∧Tg H0 t cs fs ps lg∧TgX H0 t xs cs∧z.length≤100∧H D=some (.dK (Es.map pr))∧Es.length≤100∧
 (∀E',pgN (fun z=>wdB H0 xs cs fs ps lg (.str z)) many lg cs (.num n) z Es=some E'→∀H',Ext D H H'→H' D=some (.dK (E'.map pr))→Q .non H')∧(pgN (fun z=>wdB H0 xs cs fs ps lg (.str z)) many lg cs (.num n) z Es=none→∀H',Ext D H H'→E (.ref N) none H')
theorem Bu:FnScope ["tongue","many","number","text","words"] ["tongue","many","number","text","words"] (af lR):=⟨rfl,rfl,rfl,by decide +kernel,rfl,by decide +kernel,by decide +kernel⟩
theorem xz {N:Addr} {f fI fA:Addr} {fd fdI fdA:FuncData} (F:FunG K "put_word" "put_word" lR .none f fd) (B:Bl mg) (mN:mg "NoTree" = some (.ref N)) (eN:my K N)
  (GI:FnOk P w K mg base (CXE P w) 2 fI fdI ["thing","least","most"] j5) (mI:mg "is_whole_within" = some (.ref fI)) (kI:PySem.W.keepIn K (.ref fI)=true) (bI:Binds K fdI ["thing","least","most"] [])
  (GA:FnOk P w K mg base (CXE P w) 3 fA fdA ["tongue","thing"] jm) (mA:mg "stands_as_word" = some (.ref fA)) (kA:PySem.W.keepIn K (.ref fA)=true) (bA:Binds K fdA ["tongue","thing"] []):FnOk P w K mg base (CXE P w) 4 f fd ["tongue","many","number","text","words"] (qm N):=by
 refine F.zokE Bu (fun vs H Q E h=>?_) (fun cdv A outer s H vs Q E hr h=>?_)
 ·obtain ⟨H0,t,D,cs,fs,ps,lg,xs,many,n,z,Es,rfl,_⟩:=h;rfl
 ·obtain ⟨H0,t,D,cs,fs,ps,lg,xs,many,n,z,Es,rfl,s0,hD0,tg,tx,zl,hD,el,q1,q2⟩:=h;refine ⟨_,(ae (aH (SPW.pt (be (aR (aI (aj GI (hr.mono (by decide)) (by rfl) mI kI bI .nil aw (ac (zpv 2) (aM ag (cT (aS gz (zpv 1) ag) aa)))))) (bh (ng (rf hr.units1 (zpv 2) (zpv 4)))))) (ah (dS (E:=E) (fun pins σ H1 s1 h1 e args I hx hE=>eX I hx hE) rfl (by rfl) mN eN (aM cj aa))) az)
   (ae (aH (aR (aI (aj GA hr (by rfl) mA kA bA .nil aw (ac (zpv 0) (ac (zpv 3) aa))))) (ah (dS (E:=E) (fun pins σ H1 s1 h1 e args I hx hE=>eX I hx hE) rfl (by rfl) mN eN (aM cj aa))) az)
   (ah (oV hr.units1 (zpv 4) (zpv 2) (zpv 3))))),?_⟩
  rw [xv] at q1 q2;have xx:∀{H':Hp},Same H H'→Ext D H H':=fun s b o _ h=>s b o h;refine ⟨_,rfl,_,rfl,_,_,rfl,rfl,.int n,0,(many:Int) - 1,rfl,.int n,_,rfl,?_⟩
  by_cases hb:0≤n∧n < many
  ·rw [show inB (V.int n) 0 ((many:Int) - 1)=true from by
    show (decide (0≤n) && decide (n≤(many:Int) - 1))=true;rw [decide_eq_true hb.1,decide_eq_true (by omega)]; rfl]
   refine aU ⟨_,rfl,_,rfl,D,_,rfl,DGet.k (k:=Sum.inl n) hD,_,rfl,?_⟩;rw [iW];cases hs:(Es.all fun e=>decide ((e.1:Int)≠n)) with
   | false=>exact bc ⟨by decide,q2 (if_neg (by rw [hs]; simp)) H (xx (Same.refl _))⟩
   | true=>
    refine aU ?_;refine ⟨_,rfl,_,rfl,t,xs,cs,fs,ps,lg,.str z,rfl,tg.kp (Kp.same s0),tx.kp (Kp.same s0),.str z,fun z' e=>by cases e; exact Nat.le_trans zl (by decide),fun H1 s1=>⟨_,rfl,?_⟩⟩;rw [nu (.str z) tx.rows (Kp.same s0)];cases hw:wdB H0 xs cs fs ps lg (.str z) with
    | false=>exact bc ⟨by decide,q2 (if_neg (by rw [hw]; simp)) H1 (xx s1)⟩
    | true=>
     refine aU ⟨_,rfl,_,rfl,_,rfl,D,_,rfl,DPut.k (k:=Sum.inl n) (s1 _ _ hD) (by rw [List.length_map]; exact Nat.lt_of_le_of_lt el (by decide)),?_⟩;have e:pr (n.toNat,z)=(Sum.inl n,V.str z):=by
      show (Sum.inl ((n.toNat:Nat):Int),V.str z)=_;rw [show ((n.toNat:Nat):Int)=n by omega]
     refine q1 _ (if_pos ⟨hb.1,hb.2,hs,hw⟩) _ (fun b o h1 h2=>by rw [am h1]; exact s1 _ _ h2) ?_;rw [ai,ou _ (by
      have:=iW (E:=Es) (n:=n);rw [hs] at this
      simpa using this),List.map_append,List.map_cons,List.map_nil,e]
  ·rw [show inB (V.int n) 0 ((many:Int) - 1)=false from by
    show (decide (0≤n) && decide (n≤(many:Int) - 1))=false;cases h1:decide (0≤n) with
    | false=>rfl
    | true=>exact decide_eq_false (fun z=>hb ⟨of_decide_eq_true h1,by omega⟩)]
   exact bc ⟨by decide,q2 (if_neg fun z=>hb ⟨z.1,z.2.1⟩) H (xx (Same.refl _))⟩
end
theorem xA {K:PySem.W.Frag}:PySem.W.kitOne K (.type "bool") (.type "list")=some false:=by kernel_rfl
theorem IsT.th {H:Hp} {t:TT} {v:V} (h:IsT H t v):Th H v:=by
 cases t with
 | num n=>rw [show v = .int n from h]; exact .int n
 | yes=>rw [show v = .bl true from h]; exact .bl true
 | br bs=>obtain ⟨L,as,e,h,_⟩:=h; rw [e]; exact .lst h
theorem InvE.pg {wd:Str→Bool} {many:Nat} {lg:Int} {cs:List Nat} {t:TT} {z:Str} {E E':List (Nat × Str)} (i:InvE many E) (h:pgN wd many lg cs t z E=some E'):InvE many E':=
 i.rd (qj (st:=fun _=>true) (fun _ _=>rfl) (fun _ _ _=>rfl) h).1
theorem pj {cs:List Nat} {c l:Nat} (nd:cs.Nodup) (hc:c∈cs):sg1 c∈(sgs cs).drop l↔l≤cs.idxOf c:=by
 have il:=List.idxOf_lt_length_of_mem hc;constructor
 ·intro h;obtain ⟨j,hj⟩:=List.getElem?_of_mem h;rw [List.getElem?_drop] at hj;unfold sgs at hj;rw [List.getElem?_map] at hj;obtain ⟨d,hd,e⟩:=Option.map_eq_some_iff.mp hj;have:=dM e;subst this;obtain ⟨hl,e2⟩:=List.getElem?_eq_some_iff.mp hd;have:=List.Nodup.idxOf_getElem nd (l + j) hl;rw [e2] at this;omega
 ·intro h;refine List.mem_of_getElem? (i:=cs.idxOf c - l) ?_;rw [List.getElem?_drop,show l + (cs.idxOf c - l)=cs.idxOf c by omega];unfold sgs;rw [List.getElem?_map,List.getElem?_eq_getElem il,List.getElem_idxOf]; rfl
theorem vE {wd:Str→Bool} {many:Nat} {lg:Int} {cs:List Nat} {c l:Nat} {t:TT} {bs:Bs} {z:Str} {E:List (Nat × Str)} (h:pgN wd many lg cs t (z ++ sg1 c) E=none):pgB wd many lg cs (.cons c t bs) z l E=none:=by
 rw [pgB]
 split
 ·rfl
 ·rw [h]
theorem vF {wd:Str→Bool} {many:Nat} {lg:Int} {cs:List Nat} {c l:Nat} {t:TT} {bs:Bs} {z:Str} {E E':List (Nat × Str)} (hl:l≤cs.idxOf c) (h:pgN wd many lg cs t (z ++ sg1 c) E=some E'):pgB wd many lg cs (.cons c t bs) z l E=pgB wd many lg cs bs z (cs.idxOf c + 1) E':=by
 rw [pgB,if_neg (by omega),h]
theorem iX {xs:List V} {l:Nat} (h:l≤xs.length):ju xs (some (l:Int)) none=xs.drop l:=by
 unfold ju;have e:HT.sIx xs.length 0 (some (l:Int))=l:=by rw [HT.sIx_nat]; omega
 rw [e];show (xs.drop l).take (xs.length - l)=xs.drop l;rw [List.take_of_length_le (by rw [List.length_drop]; exact Nat.le_refl _)]
section
variable {P:Program} {w:World} {K:PySem.W.Frag} {mg:Str→Option Value} {base:Heap}
def kd (N:Addr) (k:Nat):Sp:=fun vs H Q E=>∃(H0:Hp) (t D:Addr) (cs:List Nat) (fs ps:List Str) (lg:Int) (xs:List V) (many dd:Nat) (tt:TT) (v:V) (z:Str) (Es:List (Nat × Str)),vs=[.ref t,.int many,v,.str z,.ref D]∧Same H0 H∧H0 D=none∧Tg H0 t cs fs ps lg∧TgX H0 t xs cs∧
 IsT H0 tt v∧(∀n,tt≠.num n)∧GT cs 20 dd tt∧dd < k∧z.length + k≤50∧many≤20∧H D=some (.dK (Es.map pr))∧InvE many Es∧
 (∀E',pgN (fun z=>wdB H0 xs cs fs ps lg (.str z)) many lg cs tt z Es=some E'→∀H',Ext D H H'→H' D=some (.dK (E'.map pr))→Q .non H')∧(pgN (fun z=>wdB H0 xs cs fs ps lg (.str z)) many lg cs tt z Es=none→∀H',Ext D H H'→E (.ref N) none H')
theorem scGa:FnScope ["tongue","many","thing","text","words","signs","least","branch","sign","node"] ["tongue","many","thing","text","words"] (af eJ):=⟨rfl,rfl,rfl,by decide +kernel,rfl,by decide +kernel,by decide +kernel⟩
theorem tq {N:Addr} {k:Nat} {f fO fW fX fY:Addr} {fd fdO fdW fdX fdY:FuncData} (F:FunG K "gather_words" "gather_words" eJ .none f fd) (B:Bl mg) (mN:mg "NoTree" = some (.ref N)) (eN:my K N)
  (GO:FnOk P w K mg base (CXE P w) 1 fO fdO ["tongue"] (dU K)) (mO:mg "signs_of" = some (.ref fO)) (kO:PySem.W.keepIn K (.ref fO)=true) (bO:Binds K fdO ["tongue"] [])
  (GW:FnOk P w K mg base (CXE P w) 1 fW fdW ["thing"] iO) (mW:mg "is_whole" = some (.ref fW)) (kW:PySem.W.keepIn K (.ref fW)=true) (bW:Binds K fdW ["thing"] [])
  (GX:FnOk P w K mg base (CXE P w) 1 fX fdX ["signs","thing"] (nH N)) (mX:mg "look_at_branch" = some (.ref fX)) (kX:PySem.W.keepIn K (.ref fX)=true) (bX:Binds K fdX ["signs","thing"] [])
  (GY:FnOk P w K mg base (CXE P w) 4 fY fdY ["tongue","many","number","text","words"] (qm N)) (mY:mg "put_word" = some (.ref fY)) (kY:PySem.W.keepIn K (.ref fY)=true) (bY:Binds K fdY ["tongue","many","number","text","words"] [])
  (GZ:FnOk P w K mg base (CXE P w) (k + 5) f fd ["tongue","many","thing","text","words"] (kd N k)) (mZ:mg "gather_words" = some (.ref f)) (kZ:PySem.W.keepIn K (.ref f)=true) (bZ:Binds K fd ["tongue","many","thing","text","words"] []):FnOk P w K mg base (CXE P w) (k + 6) f fd ["tongue","many","thing","text","words"] (kd N (k + 1)):=by
 refine F.zokE scGa (fun vs H Q E h=>?_) (fun cdv A outer s H vs Q E hr h=>?_)
 ·obtain ⟨H0,t,D,cs,fs,ps,lg,xs,many,dd,tt,v,z,Es,rfl,_⟩:=h;rfl
 ·obtain ⟨H0,t,D,cs,fs,ps,lg,xs,many,dd,tt,v,z,Es,rfl,s0,hD0,tg,tx,it,nn,gt,dk,zl,m20,hD,iv,q1,q2⟩:=h;refine ⟨_,(ae (aH (SPW.pt (be (aR (aI (au aV (by rfl) B.isi aW (ac (zpv 2) (ac (ba (by rfl) B.list boot_list (v:=.ty "list") rfl) aa))))) (be (aA cz (au aN (by rfl) B.len PySem.boot_len (ac (zpv 2) aa)) ag (aG _)) (bh (aA cz (au cD (by rfl) B.len PySem.boot_len (ac (zpv 3) aa)) (aJ bj (zpv 0) ag (fun _ _=>rfl)) (aG _)))))) (ah (dS (E:=E) (fun pins σ H1 s1 h1 e args I hx hE=>eX I hx hE) rfl (by rfl) mN eN (aM cj aa))) az)
   (ae (ax (i:=5) scGa.nd rfl (Or.inl rfl) (aj GO (hr.mono (by omega)) (by rfl) mO kO bO .nil aw (ac (zpv 0) aa)))
   (ae (ax (i:=6) scGa.nd rfl (Or.inl rfl) ag)
   (ah (cE PassesOwn.leaving rfl (aQ (zpv 2)) (aq (i:=7) scGa.nd rfl (Or.inl rfl))
     (ae (eL (aj GX (hr.mono (by omega)) (by rfl) mX kX bX .nil (gS fun _ _ _ z=>z) (cI (ce fj (zpv 5) (cH (zpv 6)) cG) (ac (zpv 7) aa))) (df rfl (aE (aq (i:=8) scGa.nd rfl (Or.inl rfl)) (aE (aq (i:=9) scGa.nd rfl (Or.inl rfl)) bw))))
   (ae (ax (i:=6) scGa.nd rfl (Or.inl rfl) (aS cB (dg PySem.F.plainAttrs_list PySem.F.slot_list_index PySem.F.type_list_index kc (zpv 5) (ac (zpv 8) aa)) ag))
   (ah (aH (aI (aj GW (hr.mono (by omega)) (by rfl) mW kW bW .nil aw (ac (zpv 9) aa))) (ah (bK (aj GY (hr.mono (by omega)) (by rfl) mY kY bY .nil (gS fun _ _ _ z=>z) (ac (zpv 0) (ac (zpv 1) (ac (zpv 9) (cT (aS cM (zpv 3) (zpv 8)) (ac (zpv 4) aa)))))))) (ah (bK (aj GZ hr (by rfl) mZ kZ bZ .nil (gS fun _ _ _ z=>z) (ac (zpv 0) (ac (zpv 1) (ac (zpv 9) (cT (aS cM (zpv 3) (zpv 8)) (ac (zpv 4) aa))))))))))))))))),?_⟩
  have s100:∀{n:Nat},n≤100→n≤sizeLine:=fun h=>Nat.le_trans h (by decide);have xx:∀{G H':Hp},Same G H'→Ext D G H':=fun s b o _ h=>s b o h;cases tt with
  | num n=>exact absurd rfl (nn n)
  | yes=>
   have ev:v = .bl true:=it;subst ev;refine ⟨_,rfl,_,_,_,false,rfl,.of (.bl true),.inl ⟨_,rfl,xA⟩,_,rfl,bc ?_⟩;exact ⟨by decide,q2 (by rw [pgN]) H (xx (Same.refl _))⟩
  | br bs=>
   obtain ⟨L,as,rfl,hL,ib⟩:=it;obtain ⟨g1,g2,g3⟩:=gt;have hLH:=s0 _ _ hL;have al:=ib.len;refine ⟨_,rfl,_,_,_,true,rfl,.of (.lst hLH),.inl ⟨_,rfl,kl1⟩,_,rfl,aU ?_⟩;refine ⟨_,rfl,L,_,rfl,.inl (SqL.of hLH),rfl,_,rfl,?_⟩;cases bs with
   | nil=>
    have:as=[]:=ib;subst this;exact bc ⟨by decide,q2 (by rw [pgN]) H (xx (Same.refl _))⟩
   | cons c0 t0 bs0=>
   refine bE (fun e=>absurd (of_decide_eq_true e) (fun z=>by rw [List.length_map,al] at z; have z:V.int ((bs0.len + 1:Nat):Int)=V.int 0:=z; injection z with z; omega)) (fun _=>?_);obtain ⟨S,Fr,Pp,xs',h1,h2,rows,h4,h5⟩:=(tg.kp (Kp.same s0)).ex;refine ⟨_,rfl,z,rfl,s100 (by omega),_,rfl,t,_,_,_,rfl,rfl,SqT.of h1,rfl,rfl,_,rfl,?_⟩;rw [show decide (V.int (z.length:Int)=V.int lg)=decide ((z.length:Int)=lg) by simp]
   by_cases hz:(z.length:Int)=lg
   ·rw [decide_eq_true hz];exact bc ⟨by decide,q2 (by rw [pgN,if_pos hz]) H (xx (Same.refl _))⟩
   rw [decide_eq_false hz];refine aU ?_;refine ⟨_,rfl,t,S,_,_,_,xs',cs,rfl,SqT.of h1,h2,rows,tg.c6,fun l H1 hl s1 hl1=>?_⟩;have eq0:∀E,pgN (fun z=>wdB H0 xs cs fs ps lg (.str z)) many lg cs (.br (.cons c0 t0 bs0)) z E=pgB (fun z=>wdB H0 xs cs fs ps lg (.str z)) many lg cs (.cons c0 t0 bs0) z 0 E:=fun E=>by rw [pgN,if_neg hz]
   rw [eq0] at q1 q2;have S1:Same H0 H1:=s0.trans s1;have nl:l≠D:=fun e=>by rw [e,hD] at hl; cases hl
   refine ⟨_,rfl,L,rfl,⟨_,SqL.of (s1 _ _ hLH)⟩,dA (K:=K) (a:=L) (xs:=as.map V.ref) (fun i σ G=>∃(l1:Nat) (v7 v8 v9:Option V) (rest:Bs) (E1:List (Nat × Str)),σ=[some (.ref t),some (.int many),some (.ref L),some (.str z),some (.ref D),some (.ref l),some (.int l1),v7,v8,v9]∧Ext D H1 G∧G D=some (.dK (E1.map pr))∧InvE many E1∧IsB H0 rest (as.drop i)∧GB cs 20 (dd - 1) rest∧l1≤cs.length∧
     pgB (fun z=>wdB H0 xs cs fs ps lg (.str z)) many lg cs (.cons c0 t0 bs0) z 0 Es=pgB (fun z=>wdB H0 xs cs fs ps lg (.str z)) many lg cs rest z l1 E1)
    ⟨0,_,_,_,_,Es,rfl,xx (Same.refl _),s1 _ _ hD,iv,ib,g3,Nat.zero_le _,rfl⟩ (fun i σ G _ p=>by
     obtain ⟨_,_,_,_,_,_,_,x,_⟩:=p;exact SqL.of (x _ _ (fun e=>by rw [e,hD0] at hL; cases hL) (S1 _ _ hL))) ?_ ?_⟩
   ·rintro i y σ G hy ⟨l1,v7,v8,v9,rest,E1,rfl,xG,hDG,iv1,ibr,gbr,l1c,eqr⟩;rw [List.getElem?_map] at hy;obtain ⟨a,ha,e⟩:=Option.map_eq_some_iff.mp hy;cases e;have sG:Same H0 G:=fun b o h=>xG b o (fun e=>by rw [e,hD0] at h; cases h) (S1 _ _ h);have hlG:=xG _ _ nl hl1;have il:=(List.getElem?_eq_some_iff.mp ha).1;have dr:as.drop i=a :: as.drop (i + 1):=by rw [List.drop_eq_getElem_cons il]; congr 1; rw [List.getElem?_eq_getElem il] at ha; cases ha; rfl
    rw [dr] at ibr;cases rest with
    | nil=>cases (show a :: as.drop (i + 1)=[] from ibr)
    | cons c t1 bs1=>
    obtain ⟨a',v1,rs,ee,ha0,it1,ib1⟩:=ibr;injection ee with ea er;subst ea;subst er;obtain ⟨hc,gt1,gb1⟩:=gbr;have haG:=sG _ _ ha0;dsimp only [cF];refine ⟨_,rfl,_,rfl,_,rfl,l,_,rfl,SqL.of hlG,fun p hp=>?_⟩;have S2:=aF (o:=.lst (ju (txs (sgs cs)) (some (l1:Int)) none)) hp;have ep:upd G p (.lst (ju (txs (sgs cs)) (some (l1:Int)) none)) p=some (.lst (ju (txs (sgs cs)) (some (l1:Int)) none)):=ai;generalize upd G p (.lst (ju (txs (sgs cs)) (some (l1:Int)) none))=G1 at S2 ep ⊢;rw [iX (by rw [aX]; unfold sgs; rw [List.length_map]; exact l1c),show (txs (sgs cs)).drop l1=txs ((sgs cs).drop l1) by unfold txs; rw [List.map_drop]] at ep;have haG1:=S2 _ _ haG;have hlG1:=S2 _ _ hlG;have sG1:Same H0 G1:=sG.trans S2;have xG1:Ext D H1 G1:=fun b o h1 h2=>S2 _ _ (xG b o h1 h2);have xH:∀{G':Hp},Ext D G1 G'→Ext D H G':=fun x b o h1 h2=>x b o h1 (xG1 b o h1 (s1 _ _ h2));have hDG1:=S2 _ _ hDG;refine ⟨_,rfl,p,a,(sgs cs).drop l1,sg1 c,v1,rfl,ep,haG1,?_⟩
    by_cases hlc:l1≤cs.idxOf c
    ·refine .inl ⟨(pj tg.nd hc).mpr hlc,?_⟩;obtain ⟨ix1,ix2⟩:=vC tg.nd hc;have ilc:=List.idxOf_lt_length_of_mem hc;have zl1:(z ++ sg1 c).length=z.length + 1:=by rw [← cJ,← cJ,dz,List.length_append]; rfl
     have nxt:∀E',pgN (fun z=>wdB H0 xs cs fs ps lg (.str z)) many lg cs t1 (z ++ sg1 c) E1=some E'→∀G',Ext D G1 G'→G' D=some (.dK (E'.map pr))→∃(l1:Nat) (v7 v8 v9:Option V) (rest:Bs) (E1:List (Nat × Str)),[some (.ref t),some (.int many),some (.ref L),some (.str z),some (.ref D),some (.ref l),some (.int ((cs.idxOf c:Nat) + 1:Int)),some (.ref a),some (.str (sg1 c)),some v1]=[some (.ref t),some (.int many),some (.ref L),some (.str z),some (.ref D),some (.ref l),some (.int l1),v7,v8,v9]∧Ext D H1 G'∧G' D=some (.dK (E1.map pr))∧InvE many E1∧IsB H0 rest (as.drop (i + 1))∧GB cs 20 (dd - 1) rest∧l1≤cs.length∧
       pgB (fun z=>wdB H0 xs cs fs ps lg (.str z)) many lg cs (.cons c0 t0 bs0) z 0 Es=pgB (fun z=>wdB H0 xs cs fs ps lg (.str z)) many lg cs rest z l1 E1:=fun E' e G' x hd=>
      ⟨cs.idxOf c + 1,_,_,_,bs1,E',rfl,fun b o h1 h2=>x b o h1 (xG1 b o h1 h2),hd,iv1.pg e,ib1,gb1,ilc,eqr.trans (vF hlc e)⟩
     have bad:pgN (fun z=>wdB H0 xs cs fs ps lg (.str z)) many lg cs t1 (z ++ sg1 c) E1=none→∀G',Ext D G1 G'→E (.ref N) none G':=fun e G' x=>q2 (eqr.trans (vE e)) G' (xH x);clear q1 q2 eqr;refine ⟨a,_,rfl,SqT.of haG1,rfl,_,_,rfl,_,_,rfl,rfl,?_⟩;refine ⟨_,rfl,.inl ⟨rfl,_,SqL.of hlG1⟩,_,rfl,l,_,_,cs.idxOf c,rfl,rfl,SqL.of hlG1,cy _,rfl,ix1,ix2,_,_,rfl,rfl,?_⟩;refine ⟨_,rfl,v1,rfl,(IsT.kp (Kp.same sG1) it1).th,_,rfl,?_⟩;have z1:(sg1 c).length=1:=rfl;cases t1 with
     | num n=>
      have ev:v1 = .int n:=it1;subst ev;refine bc ⟨_,rfl,_,rfl,_,rfl,_,rfl,_,rfl,z,sg1 c,rfl,rfl,s100 (by rw [z1]; omega),_,rfl,?_⟩;exact ⟨H0,t,D,cs,fs,ps,lg,xs,many,n,z ++ sg1 c,E1,rfl,sG1,hD0,tg,tx,by rw [zl1]; omega,hDG1,by have:=iv1.len; omega,nxt,bad⟩
     | yes=>
      have ev:v1 = .bl true:=it1;subst ev;refine aU ⟨_,rfl,_,rfl,_,rfl,_,rfl,_,rfl,z,sg1 c,rfl,rfl,s100 (by rw [z1]; omega),_,rfl,?_⟩;exact ⟨H0,t,D,cs,fs,ps,lg,xs,many,0,.yes,_,z ++ sg1 c,E1,rfl,sG1,hD0,tg,tx,it1,nofun,trivial,by omega,by rw [zl1]; omega,m20,hDG1,iv1,nxt,bad⟩
     | br bs2=>
      obtain ⟨L2,as2,ev,_⟩:=id it1;subst ev;refine aU ⟨_,rfl,_,rfl,_,rfl,_,rfl,_,rfl,z,sg1 c,rfl,rfl,s100 (by rw [z1]; omega),_,rfl,?_⟩;exact ⟨H0,t,D,cs,fs,ps,lg,xs,many,dd - 1,.br bs2,_,z ++ sg1 c,E1,rfl,sG1,hD0,tg,tx,it1,nofun,gt1,by omega,by rw [zl1]; omega,m20,hDG1,iv1,nxt,bad⟩
    ·exact .inr ⟨fun z=>hlc ((pj tg.nd hc).mp z),q2 (eqr.trans (by rw [pgB,if_pos (by omega)])) G1 (xH (xx (Same.refl _)))⟩
   ·rintro σ G ⟨l1,v7,v8,v9,rest,E1,rfl,xG,hDG,iv1,ibr,gbr,l1c,eqr⟩;rw [List.length_map,List.drop_length] at ibr;have:rest = .nil:=by
     cases rest with
     | nil=>rfl
     | cons c t1 bs1=>obtain ⟨_,_,_,e,_⟩:=ibr; cases e
    subst this;rw [eqr,pgB] at q1;exact q1 _ rfl G (fun b o h1 h2=>xG b o h1 (s1 _ _ h2)) hDG
end
end G1
namespace L2
open PySem PySem.Spec PyProof.Rows
section
variable {X:Cx}
theorem mj:dl X (.builtin "len") (fun vs H Q=>∃a kvs,vs=[.ref a]∧H a=some (.dK kvs)∧Q (.int (kvs.length:Int)) H):=by
 intro pins s σ H xs us Q I r h;obtain ⟨a,kvs,rfl,ha,q⟩:=h;obtain ⟨u,rfl,rx⟩:=vals1 r;cases rx;exact Al I (.inl ha) fun t s' I'=>⟨.int kvs.length,H,I',⟨_,rfl⟩,q⟩
end
end L2
namespace G1
open PySem L2 GM
theorem rq {E:List (Nat × Str)} (nd:E.Pairwise fun p q=>p.1≠q.1) {i:Nat} {z:Str} (h:(i,z)∈E):cW (E.map pr) (Sum.inl (i:Int):Key)=some (V.str z):=by
 induction E with
 | nil=>cases h
 | cons q E ih=>
  obtain ⟨n1,n2⟩:=List.pairwise_cons.mp nd;rw [List.map_cons];unfold cW;rcases List.mem_cons.mp h with rfl | h
  ·rw [List.find?_cons_of_pos (by show decide ((Sum.inl ((i:Nat):Int):Key)=Sum.inl (i:Int))=true; simp)]; rfl
  ·have:=n1 _ h;rw [List.find?_cons_of_neg (by show ¬decide ((Sum.inl ((q.1:Nat):Int):Key)=Sum.inl (i:Int))=true; simp; intro e; exact this (by dsimp only; omega))];exact ih n2 h
section
variable {P:Program} {w:World} {K:PySem.W.Frag} {mg:Str→Option Value} {base:Heap}
theorem qo {N:Addr} {f:Addr} {fd:FuncData} (F:FunG K "gather_words" "gather_words" eJ .none f fd):FnOk P w K mg base (CXE P w) 5 f fd ["tongue","many","thing","text","words"] (kd N 0):=by
 refine F.zokE scGa (fun vs H Q E h=>?_) (fun cdv A outer s H vs Q E hr h=>?_)
 ·obtain ⟨H0,t,D,cs,fs,ps,lg,xs,many,dd,tt,v,z,Es,rfl,_⟩:=h;rfl
 ·obtain ⟨H0,t,D,cs,fs,ps,lg,xs,many,dd,tt,v,z,Es,rfl,s0,hD0,tg,tx,it,nn,gt,dk,_⟩:=h;exact absurd dk (Nat.not_lt_zero _)
theorem ke {N:Addr} {fO fW fX fY:Addr} {fdO fdW fdX fdY:FuncData} {f:Addr} {fd:FuncData} (F:FunG K "gather_words" "gather_words" eJ .none f fd) (B:Bl mg) (mN:mg "NoTree" = some (.ref N)) (eN:my K N)
  (GO:FnOk P w K mg base (CXE P w) 1 fO fdO ["tongue"] (dU K)) (mO:mg "signs_of" = some (.ref fO)) (kO:PySem.W.keepIn K (.ref fO)=true) (bO:Binds K fdO ["tongue"] [])
  (GW:FnOk P w K mg base (CXE P w) 1 fW fdW ["thing"] iO) (mW:mg "is_whole" = some (.ref fW)) (kW:PySem.W.keepIn K (.ref fW)=true) (bW:Binds K fdW ["thing"] [])
  (GX:FnOk P w K mg base (CXE P w) 1 fX fdX ["signs","thing"] (nH N)) (mX:mg "look_at_branch" = some (.ref fX)) (kX:PySem.W.keepIn K (.ref fX)=true) (bX:Binds K fdX ["signs","thing"] [])
  (GY:FnOk P w K mg base (CXE P w) 4 fY fdY ["tongue","many","number","text","words"] (qm N)) (mY:mg "put_word" = some (.ref fY)) (kY:PySem.W.keepIn K (.ref fY)=true) (bY:Binds K fdY ["tongue","many","number","text","words"] [])
  (mZ:mg "gather_words" = some (.ref f)) (kZ:PySem.W.keepIn K (.ref f)=true) (bZ:Binds K fd ["tongue","many","thing","text","words"] []):∀k,FnOk P w K mg base (CXE P w) (k + 5) f fd ["tongue","many","thing","text","words"] (kd N k)
 | 0=>qo F
 | k + 1=>tq F B mN eN GO mO kO bO GW mW kW bW GX mX kX bX GY mY kY bY (ke F B mN eN GO mO kO bO GW mW kW bW GX mX kX bX GY mY kY bY mZ kZ bZ k) mZ kZ bZ
def pw (T1 T2 N:Addr):Sp:=fun vs H Q E=>∃(t L:Addr) (cs:List Nat) (fs ps:List Str) (lg:Int) (xs:List V) (many:Nat) (bs:Bs),vs=[.ref t,.int many,.ref L]∧Tg H t cs fs ps lg∧TgX H t xs cs∧Tab T1 H∧Tab T2 H∧IsT H (.br bs) (.ref L)∧GT cs 20 12 (.br bs)∧many≤20∧
 (∀Es,rdN (fun z=>stB cs fs ps lg (.str z)) (fun z=>wdB H xs cs fs ps lg (.str z)) many cs (.br bs) "" []=some Es→Es.length=many→∀Bk H',Kp H H'→Tab T1 H'→Tab T2 H'→H' Bk=some (.lst (txs (jy Es many)))→Q (.ref Bk) H')∧
 ((∀Es,rdN (fun z=>stB cs fs ps lg (.str z)) (fun z=>wdB H xs cs fs ps lg (.str z)) many cs (.br bs) "" []=some Es→Es.length≠many)→∀H',Kp H H'→Tab T1 H'→Tab T2 H'→E (.ref N) none H')
theorem scBo:FnScope ["tongue","many","thing","words"] ["tongue","many","thing"] (af fK):=⟨rfl,rfl,rfl,by decide +kernel,rfl,by decide +kernel,by decide +kernel⟩
theorem tu {T1 T2 N:Addr} {f fL fZ:Addr} {fd fdL fdZ:FuncData} (F:FunG K "book_of" "book_of" fK .none f fd) (B:Bl mg) (mN:mg "NoTree" = some (.ref N)) (eN:my K N)
  (GL:FnOk P w K mg base (CXE P w) 7 fL fdL ["thing"] (p6 T1 T2)) (mL:mg "look_at_tongue" = some (.ref fL)) (kL:PySem.W.keepIn K (.ref fL)=true) (bL:Binds K fdL ["thing"] [])
  (GZ:FnOk P w K mg base (CXE P w) 18 fZ fdZ ["tongue","many","thing","text","words"] (kd N 13)) (mZ:mg "gather_words" = some (.ref fZ)) (kZ:PySem.W.keepIn K (.ref fZ)=true) (bZ:Binds K fdZ ["tongue","many","thing","text","words"] []):FnOk P w K mg base (CXE P w) 19 f fd ["tongue","many","thing"] (pw T1 T2 N):=by
 refine F.zokE scBo (fun vs H Q E h=>?_) (fun cdv A outer s H vs Q E hr h=>?_)
 ·obtain ⟨t,L,cs,fs,ps,lg,xs,many,bs,rfl,_⟩:=h;rfl
 ·obtain ⟨t,L,cs,fs,ps,lg,xs,many,bs,rfl,tg,tx,t1,t2,it,gt,m20,q1,q2⟩:=h;refine ⟨_,(ae (bK (aj GL (hr.mono (by decide)) (by rfl) mL kL bL .nil aw (ac (zpv 0) aa)))
   (ae (ax (i:=3) scBo.nd rfl (Or.inr rfl) lS)
   (ae (bK (aj GZ hr (by rfl) mZ kZ bZ .nil (gS fun _ _ _ z=>z) (ac (zpv 0) (ac (zpv 1) (ac (zpv 2) (aM cj (ac (zpv 3) aa)))))))
   (ae (aH (aA kQ (au mj (by rfl) B.len PySem.boot_len (ac (zpv 3) aa)) (zpv 1) (aG _)) (ah (dS (E:=E) (fun pins σ H1 s1 h1 e args I hx hE=>eX I hx hE) rfl (by rfl) mN eN (aM cj aa))) az)
   (ah (ay (cx ["tongue","many","thing","words"] ["number"] [3] (af fK) rfl rfl rfl ⟨by decide +kernel,by decide +kernel,by decide +kernel,by decide +kernel,by decide +kernel⟩ (dw (by rfl) B.range (ac (zpv 1) aa)) (fun s H fp=>(aq (i:=0) (show List.Nodup [("number" : Str),"words"] by decide +kernel) rfl (Or.inl rfl))) (fun s H fp=>bM) (fun s H fp=>(j4 hr.units1 (zpv 1) (zpv 0) (fun _ _=>rfl)))))))))),?_⟩
  refine ⟨_,rfl,t,cs,fs,ps,lg,rfl,tg,t1,t2,fun H1 k1 t11 t21=>?_⟩;intro D hD;have s2:=aF (o:=.dK []) hD;have eD:(upd H1 D (.dK [])) D=some (.dK []):=ai;generalize upd H1 D (.dK [])=H2 at s2 eD ⊢;have tg1:=tg.kp k1;have tx1:=tx.kp k1;have ewd:(fun z=>wdB H1 xs cs fs ps lg (.str z))=fun z=>wdB H xs cs fs ps lg (.str z):=funext fun z=>nu (.str z) tx.rows k1;have pe:=AD (st:=fun z=>stB cs fs ps lg (.str z)) (wd:=fun z=>wdB H xs cs fs ps lg (.str z)) (many:=many) (lg:=lg) (cs:=cs) (fun z h=>yk h) (fun z c h=>zC h) (fun z h=>vo h) (.br bs) "" [];have xk:∀{G:Hp},Ext D H2 G→Kp H G∧Tab T1 G∧Tab T2 G:=fun {G} x=>by
   have s12:Same H1 G:=fun b o h=>x b o (fun e=>by rw [e,hD] at h; cases h) (s2 _ _ h);exact ⟨k1.trans (Kp.same s12),t11.same s12,t21.same s12⟩
  refine ⟨_,rfl,_,rfl,_,rfl,_,rfl,H1,t,D,cs,fs,ps,lg,xs,many,12,.br bs,_,"",[],rfl,s2,hD,tg1,tx1,IsT.kp k1 it,nofun,gt,by decide,by decide,m20,eD,⟨.nil,nofun⟩,fun E1 e G x hG=>?_,fun e G x=>?_⟩
  ·rw [ewd,pe] at e;obtain ⟨kG,t1G,t2G⟩:=xk x;have iv:=InvE.rd (many:=many) ⟨.nil,nofun⟩ e;refine ⟨_,rfl,D,_,rfl,hG,_,rfl,rfl,_,rfl,?_⟩;rw [List.length_map]
   by_cases len:E1.length=many
   ·rw [show (!decide (V.int (E1.length:Int)=V.int (many:Int)))=false by rw [len]; simp];refine aU ?_;refine ⟨_,rfl,_,rfl,by omega,by omega,?_⟩
    (intro M gM; generalize hEq:upd _ M _=G3; refine aZ hEq gM ?_; clear hEq; intro S3 eM o3)
    rw [show ((many:Nat):Int).toNat=many from Int.toNat_natCast _];refine oC (fun i σ G'=>(∃v,σ=[v,some (.ref D)])∧Same G G'∧G' M=some (.lst (txs ((List.range i).map (gO E1))))) ⟨⟨_,rfl⟩,S3,eM⟩ ?_ ?_
    ·rintro i σ G' C hi ⟨⟨v,rfl⟩,sG,hM⟩ nx;dsimp only [cF];rw [show (0:Int) + (i:Int)=(i:Int) from Int.zero_add _];obtain ⟨pm,at_⟩:=rp iv.nd iv.lt len;obtain ⟨z,hz,ez⟩:=at_ i hi;have fv:cW (E1.map pr) (Sum.inl (i:Int):Key)=some (V.str (gO E1 i)):=by
      rw [ez];exact rq iv.nd hz
     refine ⟨_,rfl,_,rfl,D,_,rfl,fv ▸ DGet.k (k:=Sum.inl (i:Int)) (sG _ _ hG),_,hM,?_,nx _ _ ⟨⟨_,rfl⟩,fun u o h=>by rw [am (ak h gM)]; exact sG _ _ h,?_⟩⟩
     ·rw [aX,List.length_map,List.length_range];exact Nat.lt_of_lt_of_le hi (Nat.le_trans m20 (by decide))
     ·rw [ai,List.range_succ,List.map_append,List.map_cons,List.map_nil];unfold txs;rw [List.map_append]; rfl
    rintro σ G' ⟨⟨v,rfl⟩,sG,hM⟩;exact q1 E1 e len M G' (kG.trans (Kp.same sG)) (t1G.same sG) (t2G.same sG) hM
   ·rw [show (!decide (V.int (E1.length:Int)=V.int (many:Int)))=true by rw [decide_eq_false (fun z=>by injection z with z; omega)]; rfl];exact bc ⟨by decide,q2 (fun Es h=>by rw [e] at h; cases h; exact len) G kG t1G t2G⟩
  ·rw [ewd,pe] at e;obtain ⟨kG,t1G,t2G⟩:=xk x;exact q2 (fun Es h=>by rw [e] at h; cases h) G kG t1G t2G
end
theorem Bv {K:PySem.W.Frag}:PySem.W.kitOne K (.type "bool") (.type "tuple")=some false:=by kernel_rfl
theorem Bw {K:PySem.W.Frag}:PySem.W.kitOne K (.type "int") (.type "tuple")=some false:=by kernel_rfl
theorem Bx {K:PySem.W.Frag}:PySem.W.kitOne K (.type "str") (.type "tuple")=some false:=by kernel_rfl
theorem By {K:PySem.W.Frag}:PySem.W.kitOne K (.type "list") (.type "tuple")=some false:=by kernel_rfl
theorem xB {K:PySem.W.Frag}:PySem.W.kitOne K (.type "int") (.type "list")=some false:=by kernel_rfl
theorem Bz {K:PySem.W.Frag}:PySem.W.kitOne K (.type "str") (.type "list")=some false:=by kernel_rfl
mutual
def NT (O H:Hp):TT→V→Prop
 | .num n,v=>v = .int n
 | .yes,v=>v = .bl true
 | .br bs,v=>∃(L:Addr) (as:List Addr),v = .ref L∧O L=none∧H L=some (.lst (as.map V.ref))∧NB O H bs as
def NB (O H:Hp):Bs→List Addr→Prop
 | .nil,as=>as=[]
 | .cons c t bs,as=>∃(a:Addr) (v:V) (rest:List Addr),as=a :: rest∧H a=some (.tup [.str (sg1 c),v])∧NT O H t v∧NB O H bs rest
end
structure Kt (O H H':Hp):Prop where
 tup:∀b xs,H b=some (.tup xs)→H' b=some (.tup xs)
 lst:∀b xs,O b=none→H b=some (.lst xs)→H' b=some (.lst xs)
theorem Kt.same {O H H':Hp} (s:Same H H'):Kt O H H':=⟨fun b xs h=>s _ _ h,fun b xs _ h=>s _ _ h⟩
theorem Kt.trans {O H H' H'':Hp} (a:Kt O H H') (b:Kt O H' H''):Kt O H H'':=⟨fun x xs h=>b.tup _ _ (a.tup _ _ h),fun x xs n h=>b.lst _ _ n (a.lst _ _ n h)⟩
theorem Kt.set {O H:Hp} {M:Addr} {xs ys:List V} (h:H M=some (.lst xs)) (n:O M≠none):Kt O H (upd H M (.lst ys)):=
 ⟨fun b zs e=>by rw [am (fun z=>by rw [z,h] at e; cases e)]; exact e,fun b zs e1 e2=>by rw [am (fun z=>n (by rw [← z]; exact e1))]; exact e2⟩
mutual
theorem NT.keep {O O' H H':Hp} (n:∀b,O b=none→O' b=none) (k:Kt O H H'):∀{t:TT} {v:V},NT O H t v→NT O' H' t v
 | .num m,v,h=>h
 | .yes,v,h=>h
 | .br bs,v,⟨L,as,e,g,h,b⟩=>⟨L,as,e,n _ g,k.lst _ _ g h,NB.keep n k b⟩
theorem NB.keep {O O' H H':Hp} (n:∀b,O b=none→O' b=none) (k:Kt O H H'):∀{bs:Bs} {as:List Addr},NB O H bs as→NB O' H' bs as
 | .nil,as,h=>h
 | .cons c t bs,as,⟨a,v,r,e,h,x,b⟩=>⟨a,v,r,e,k.tup _ _ h,NT.keep n k x,NB.keep n k b⟩
end
mutual
theorem NT.is {O H:Hp}:∀{t:TT} {v:V},NT O H t v→IsT H t v
 | .num m,v,h=>h
 | .yes,v,h=>h
 | .br bs,v,⟨L,as,e,g,h,b⟩=>⟨L,as,e,h,NB.is b⟩
theorem NB.is {O H:Hp}:∀{bs:Bs} {as:List Addr},NB O H bs as→IsB H bs as
 | .nil,as,h=>h
 | .cons c t bs,as,⟨a,v,r,e,h,x,b⟩=>⟨a,v,r,e,h,NT.is x,NB.is b⟩
end
section
variable {P:Program} {w:World} {K:PySem.W.Frag} {mg:Str→Option Value} {base:Heap}
def gP (k:Nat):Sp:=fun vs H Q _=>∃(cs:List Nat) (d:Nat) (v:V),vs=[v]∧((∃z,v = .str z∧0 < k∧Q v H)∨(∃tt,IsT H tt v∧GT cs 20 d tt∧2 * d < k∧∀v' H',Same H H'→NT H H' tt v'→Q v' H')∨
 (∃a c tt u,v = .ref a∧H a=some (.tup [.str (sg1 c),u])∧IsT H tt u∧GT cs 20 d tt∧2 * d + 1 < k∧∀a' u' H',Same H H'→H' a'=some (.tup [.str (sg1 c),u'])→NT H H' tt u'→Q (.ref a') H'))
theorem AF:FnScope ["_law_thing"] ["_law_thing"] (af dy):=⟨rfl,rfl,rfl,by decide +kernel,rfl,by decide +kernel,by decide +kernel⟩
theorem tw {k:Nat} {f:Addr} {fd:FuncData} (F:FunG K "_law_copied" "_law_copied" dy .none f fd) (B:Bl mg)
  (GC:FnOk P w K mg base (CXE P w) (k + 1) f fd ["_law_thing"] (gP k)) (mC:mg "_law_copied" = some (.ref f)) (kC:PySem.W.keepIn K (.ref f)=true) (bC:Binds K fd ["_law_thing"] []):FnOk P w K mg base (CXE P w) (k + 2) f fd ["_law_thing"] (gP (k + 1)):=by
 refine F.zokN AF (fun vs H Q E h=>?_) (fun cdv A outer s H vs Q E hr h=>?_)
 ·obtain ⟨cs,d,v,rfl,_⟩:=h;rfl
 ·obtain ⟨cs,d,v,rfl,alt⟩:=h;refine ⟨_,(ae (aH (aI (au aV (by rfl) B.isi aW (ac (zpv 0) (ac (ba (by rfl) B.tuple boot_tuple (v:=.ty "tuple") rfl) aa)))) (ah (ay (fV kq (by rfl) B.tuple boot_tuple (gf (cx ["_law_thing"] ["_law_part"] [] (af dy) rfl rfl rfl ⟨by decide +kernel,by decide +kernel,by decide +kernel,by decide +kernel,by decide +kernel⟩ (wY (zpv 0)) (fun s H fp=>(aq (i:=0) (show List.Nodup [("_law_part" : Str)] by decide +kernel) rfl (Or.inl rfl))) (fun s H fp=>bM) (fun s H fp=>(aj GC hr (by rfl) mC kC bC .nil aw (ac (zpv 0) aa)))) aa)))) az)
   (ae (aH (aI (au aV (by rfl) B.isi aW (ac (zpv 0) (ac (ba (by rfl) B.list boot_list (v:=.ty "list") rfl) aa)))) (ah (ay (cx ["_law_thing"] ["_law_part"] [] (af dy) rfl rfl rfl ⟨by decide +kernel,by decide +kernel,by decide +kernel,by decide +kernel,by decide +kernel⟩ (aQ (zpv 0)) (fun s H fp=>(aq (i:=0) (show List.Nodup [("_law_part" : Str)] by decide +kernel) rfl (Or.inl rfl))) (fun s H fp=>bM) (fun s H fp=>(aj GC hr (by rfl) mC kC bC .nil aw (ac (zpv 0) aa)))))) az)
   (ah (ay (zpv 0))))),?_⟩
  rcases alt with ⟨z,rfl,_,q⟩ | ⟨tt,it,gt,dk,q⟩ | ⟨a,c,tt,u,rfl,ha,it,gt,dk,q⟩
  ·refine ⟨_,rfl,_,_,_,false,rfl,.of (.str z),.inl ⟨_,rfl,Bx⟩,_,rfl,aU ?_⟩;refine ⟨_,rfl,_,_,_,false,rfl,.of (.str z),.inl ⟨_,rfl,Bz⟩,_,rfl,aU ?_⟩;exact ⟨_,rfl,q⟩
  ·cases tt with
   | num n=>
    have ev:v = .int n:=it;subst ev;refine ⟨_,rfl,_,_,_,false,rfl,.of (.int n),.inl ⟨_,rfl,Bw⟩,_,rfl,aU ?_⟩;refine ⟨_,rfl,_,_,_,false,rfl,.of (.int n),.inl ⟨_,rfl,xB⟩,_,rfl,aU ?_⟩;exact ⟨_,rfl,q _ _ (Same.refl _) rfl⟩
   | yes=>
    have ev:v = .bl true:=it;subst ev;refine ⟨_,rfl,_,_,_,false,rfl,.of (.bl true),.inl ⟨_,rfl,Bv⟩,_,rfl,aU ?_⟩;refine ⟨_,rfl,_,_,_,false,rfl,.of (.bl true),.inl ⟨_,rfl,xA⟩,_,rfl,aU ?_⟩;exact ⟨_,rfl,q _ _ (Same.refl _) rfl⟩
   | br bs=>
    obtain ⟨L,as,rfl,hL,ib⟩:=it;obtain ⟨g1,g2,g3⟩:=gt;refine ⟨_,rfl,_,_,_,false,rfl,.of (.lst hL),.inl ⟨_,rfl,By⟩,_,rfl,aU ?_⟩;refine ⟨_,rfl,_,_,_,true,rfl,.of (.lst hL),.inl ⟨_,rfl,kl1⟩,_,rfl,bc ?_⟩;refine ⟨_,rfl,L,rfl,⟨_,SqL.of hL⟩,fun M hM=>?_⟩;have S0:=aF (o:=.lst []) hM;have eM:(upd H M (.lst [])) M=some (.lst []):=ai;show LR _ _ _ _ _ (upd H M (.lst [])) _;generalize upd H M (.lst [])=O at S0 eM ⊢;have oM:O M≠none:=by rw [eM]; nofun
    refine de (xs:=as.map V.ref) (fun i σ G=>∃(v:Option V) (as':List Addr) (rest:Bs),σ=[v]∧Same H G∧(∀b,G b=none→O b=none)∧G M=some (.lst (as'.map V.ref))∧as'.length=i∧IsB H rest (as.drop i)∧GB cs 20 (d - 1) rest∧∀H' as'',Kt O G H'→NB O H' rest as''→NB O H' bs (as' ++ as'')) ⟨_,[],bs,rfl,S0,fun _ h=>h,eM,rfl,ib,g3,fun H' as'' _ h=>h⟩ (fun i σ G p=>by obtain ⟨_,_,_,_,s,_⟩:=p; exact SqL.of (s _ _ hL)) ?_ ?_
    ·rintro i y σ G C hy ⟨v,as',rest,rfl,sG,dG,hMG,al,ibr,gbr,cl⟩ nx;rw [List.getElem?_map] at hy;obtain ⟨a,ha,e⟩:=Option.map_eq_some_iff.mp hy;cases e;have il:=(List.getElem?_eq_some_iff.mp ha).1;have dr:as.drop i=a :: as.drop (i + 1):=by rw [List.drop_eq_getElem_cons il]; congr 1; rw [List.getElem?_eq_getElem il] at ha; cases ha; rfl
     rw [dr] at ibr;cases rest with
     | nil=>cases (show a :: as.drop (i + 1)=[] from ibr)
     | cons c t1 bs1=>
     obtain ⟨a',v1,rs,ee,ha0,it1,ib1⟩:=ibr;injection ee with ea er;subst ea;subst er;obtain ⟨hc,gt1,gb1⟩:=gbr;dsimp only [cF];refine ⟨_,rfl,cs,d - 1,_,rfl,.inr (.inr ⟨a,c,t1,v1,rfl,sG _ _ ha0,IsT.kp (Kp.same sG) it1,gt1,by omega,fun a2 u2 G2 s2 ha2 n2=>?_⟩)⟩;have hM2:=s2 _ _ hMG;have ilb:i < 20:=by have:=ib.len; omega
     refine ⟨_,hM2,?_,nx _ _ ⟨_,as' ++ [a2],bs1,rfl,fun b o h=>?_,fun b h=>?_,?_,by rw [List.length_append,al]; rfl,ib1,gb1,fun H' as'' k' nb=>?_⟩⟩
     ·rw [List.length_map,al];exact Nat.lt_of_lt_of_le ilb (by decide)
     ·rw [am (ak h hM)];exact s2 _ _ (sG _ _ h)
     ·by_cases e:b=M
      ·rw [e,ai] at h; cases h
      ·rw [am e] at h;exact dG b (s2.free h)
     ·rw [ai,List.map_append]; rfl
     ·have kt:Kt O G2 H':=(Kt.set hM2 oM).trans k';rw [List.append_assoc];refine cl H' (a2 :: as'') ((Kt.same s2).trans kt) ⟨a2,u2,as'',rfl,kt.tup _ _ ha2,NT.keep dG ⟨kt.tup,fun b xs n h=>kt.lst b xs (dG b n) h⟩ n2,nb⟩
    ·rintro σ G ⟨v,as',rest,rfl,sG,dG,hMG,al,ibr,gbr,cl⟩;rw [List.length_map,List.drop_length] at ibr;have:rest = .nil:=by
      cases rest with
      | nil=>rfl
      | cons c t1 bs1=>obtain ⟨_,_,_,e,_⟩:=ibr; cases e
     subst this;have nb:=cl G [] (Kt.same (Same.refl _)) rfl;rw [List.append_nil] at nb;exact q _ G sG ⟨M,as',rfl,hM,hMG,NB.keep (fun b h=>S0.free h) (Kt.same (Same.refl _)) nb⟩
  ·refine ⟨_,rfl,_,_,_,true,rfl,.of (.tup ha),.inl ⟨_,rfl,kt1⟩,_,rfl,bc ?_⟩;refine ⟨_,rfl,a,rfl,⟨_,SqT.of ha⟩,fun M hM=>?_⟩;have S0:=aF (o:=.lst []) hM;have eM:(upd H M (.lst [])) M=some (.lst []):=ai;show LR _ _ _ _ _ (upd H M (.lst [])) _;generalize upd H M (.lst [])=O at S0 eM ⊢;have oM:O M≠none:=by rw [eM]; nofun
   refine zg (xs:=[.str (sg1 c),u]) (fun i σ G=>∃(v:Option V),σ=[v]∧Same H G∧(∀b,G b=none→O b=none)∧∃u':V,G M=some (.lst ([V.str (sg1 c),u'].take i))∧(i=2→NT O G tt u')) ⟨_,rfl,S0,fun _ h=>h,.non,eM,nofun⟩ (fun i σ G p=>by obtain ⟨_,_,s,_⟩:=p; exact SqT.of (s _ _ ha)) ?_ ?_
   ·rintro i y σ G C hy ⟨v,rfl,sG,dG,u',hMG,_⟩ nx
    match i,hy with
    | 0,hy=>
     cases hy;dsimp only [cF];refine ⟨_,rfl,cs,d,_,rfl,.inl ⟨_,rfl,by omega,?_⟩⟩;refine ⟨_,hMG,by show (0:Nat) < sizeLine; decide,nx _ _ ⟨_,rfl,fun b o h=>by rw [am (ak h hM)]; exact sG _ _ h,fun b h=>?_,.non,by rw [ai]; rfl,nofun⟩⟩
     by_cases e:b=M
     ·rw [e,ai] at h; cases h
     ·rw [am e] at h;exact dG b h
    | 1,hy=>
     cases hy;dsimp only [cF];refine ⟨_,rfl,cs,d,_,rfl,.inr (.inl ⟨tt,IsT.kp (Kp.same sG) it,gt,by omega,fun u2 G2 s2 n2=>?_⟩)⟩;have hM2:=s2 _ _ hMG;refine ⟨_,hM2,by show (1:Nat) < sizeLine; decide,nx _ _ ⟨_,rfl,fun b o h=>by rw [am (ak h hM)]; exact s2 _ _ (sG _ _ h),fun b h=>?_,u2,by rw [ai]; rfl,fun _=>?_⟩⟩
     ·by_cases e:b=M
      ·rw [e,ai] at h; cases h
      ·rw [am e] at h;exact dG b (s2.free h)
     ·have kt:Kt O G2 (upd G2 M (.lst ([V.str (sg1 c)] ++ [u2]))):=Kt.set hM2 oM;exact NT.keep dG ⟨kt.tup,fun b xs n h=>kt.lst b xs (dG b n) h⟩ n2
    | i + 2,hy=>simp at hy
   ·rintro σ G ⟨v,rfl,sG,dG,u',hMG,n2⟩;have n2:=n2 rfl;refine ⟨M,_,rfl,.inl ⟨SqL.of hMG,fun l hl=>?_⟩⟩;refine q l u' _ (sG.trans (aF hl)) ai ?_;exact NT.keep (fun b h=>S0.free h) (Kt.same (aF hl)) n2
theorem qp {f:Addr} {fd:FuncData} (F:FunG K "_law_copied" "_law_copied" dy .none f fd) (B:Bl mg):FnOk P w K mg base (CXE P w) 1 f fd ["_law_thing"] (gP 0):=by
 refine F.zokN AF (fun vs H Q E h=>?_) (fun cdv A outer s H vs Q E hr h=>?_)
 ·obtain ⟨cs,d,v,rfl,_⟩:=h;rfl
 ·obtain ⟨cs,d,v,rfl,alt⟩:=h;rcases alt with ⟨z,rfl,h,_⟩ | ⟨tt,it,gt,dk,q⟩ | ⟨a,c,tt,u,rfl,ha,it,gt,dk,q⟩
  ·exact absurd h (Nat.lt_irrefl _)
  ·exact absurd dk (Nat.not_lt_zero _)
  ·exact absurd dk (Nat.not_lt_zero _)
theorem kf {f:Addr} {fd:FuncData} (F:FunG K "_law_copied" "_law_copied" dy .none f fd) (B:Bl mg) (mC:mg "_law_copied" = some (.ref f)) (kC:PySem.W.keepIn K (.ref f)=true) (bC:Binds K fd ["_law_thing"] []):∀k,FnOk P w K mg base (CXE P w) (k + 1) f fd ["_law_thing"] (gP k)
 | 0=>qp F B
 | k + 1=>tw F B (kf F B mC kC bC k) mC kC bC
end
theorem BA {K:PySem.W.Frag}:PySem.W.kitOne K (.type "list") (.type "bool")=some false:=by kernel_rfl
theorem kli {K:PySem.W.Frag}:PySem.W.kitOne K (.type "list") (.type "int")=some false:=by kernel_rfl
section
variable {st wd:Str→Bool} {many:Nat} {cs:List Nat} {c l:Nat} {t:TT} {bs:Bs} {z:Str} {E E':List (Nat × Str)}
theorem xC (h:cs.idxOf c < l):rdB st wd many cs (.cons c t bs) z l E=none:=by rw [rdB,if_pos (.inl h)]
theorem xD (h:st (z ++ sg1 c)=false):rdB st wd many cs (.cons c t bs) z l E=none:=by rw [rdB,if_pos (.inr h)]
theorem vG (h:rdN st wd many cs t (z ++ sg1 c) E=none):rdB st wd many cs (.cons c t bs) z l E=none:=by
 rw [rdB]
 split
 ·rfl
 ·rw [h]
theorem vH (hl:l≤cs.idxOf c) (hs:st (z ++ sg1 c)=true) (h:rdN st wd many cs t (z ++ sg1 c) E=some E'):rdB st wd many cs (.cons c t bs) z l E=rdB st wd many cs bs z (cs.idxOf c + 1) E':=by
 rw [rdB,if_neg (by rw [hs]; simp; omega),h]
end
section
variable {P:Program} {w:World} {K:PySem.W.Frag} {mg:Str→Option Value} {base:Heap}
def iY (k:Nat):Sp:=fun vs H Q _=>∃(H0:Hp) (t D:Addr) (cs:List Nat) (fs ps:List Str) (lg:Int) (xs:List V) (many dd:Nat) (bs:Bs) (v:V) (z:Str) (Es:List (Nat × Str)),vs=[.ref t,.int many,v,.str z,.ref D]∧Same H0 H∧H0 D=none∧Tg H0 t cs fs ps lg∧TgX H0 t xs cs∧
 IsT H0 (.br bs) v∧GT cs 20 dd (.br bs)∧dd < k∧z.length + k≤50∧many≤20∧H D=some (.dK (Es.map pr))∧InvE many Es∧
 (∀E',rdN (fun z=>stB cs fs ps lg (.str z)) (fun z=>wdB H0 xs cs fs ps lg (.str z)) many cs (.br bs) z Es=some E'→∀H',Ext D H H'→H' D=some (.dK (E'.map pr))→Q (.bl true) H')∧
 (rdN (fun z=>stB cs fs ps lg (.str z)) (fun z=>wdB H0 xs cs fs ps lg (.str z)) many cs (.br bs) z Es=none→∀H',Ext D H H'→Q (.bl false) H')
theorem scRe:FnScope ["_law_tongue_here","_law_many","_law_thing","_law_begin","_law_found","_law_names","_law_last","_law_sign","_law_node","_law_text"] ["_law_tongue_here","_law_many","_law_thing","_law_begin","_law_found"] (af fM):=⟨rfl,rfl,rfl,by decide +kernel,rfl,by decide +kernel,by decide +kernel⟩
theorem tD {k:Nat} {f fS fI:Addr} {fd fdS fdI:FuncData} (F:FunG K "_law_reads" "_law_reads" fM .none f fd) (B:Bl mg)
  (GS:FnOk P w K mg base (CXE P w) 2 fS fdS ["_law_tongue_here","_law_thing"] ff) (mS:mg "_law_stands" = some (.ref fS)) (kS:PySem.W.keepIn K (.ref fS)=true) (bS:Binds K fdS ["_law_tongue_here","_law_thing"] [])
  (GI:FnOk P w K mg base (CXE P w) 3 fI fdI ["_law_tongue_here","_law_thing"] jm) (mI:mg "_law_is_word" = some (.ref fI)) (kI:PySem.W.keepIn K (.ref fI)=true) (bI:Binds K fdI ["_law_tongue_here","_law_thing"] [])
  (GR:FnOk P w K mg base (CXE P w) (k + 4) f fd ["_law_tongue_here","_law_many","_law_thing","_law_begin","_law_found"] (iY k)) (mR:mg "_law_reads" = some (.ref f)) (kR:PySem.W.keepIn K (.ref f)=true) (bR:Binds K fd ["_law_tongue_here","_law_many","_law_thing","_law_begin","_law_found"] []):FnOk P w K mg base (CXE P w) (k + 5) f fd ["_law_tongue_here","_law_many","_law_thing","_law_begin","_law_found"] (iY (k + 1)):=by
 refine F.zokN scRe (fun vs H Q E h=>?_) (fun cdv A outer s H vs Q E hr h=>?_)
 ·obtain ⟨H0,t,D,cs,fs,ps,lg,xs,many,dd,bs,v,z,Es,rfl,_⟩:=h;rfl
 ·obtain ⟨H0,t,D,cs,fs,ps,lg,xs,many,dd,bs,v,z,Es,rfl,s0,hD0,tg,tx,it,gt,dk,zl,m20,hD,iv,q1,q2⟩:=h;refine ⟨_,(ae (h8 (i:=5) ["_law_tongue_here","_law_many","_law_thing","_law_begin","_law_found","_law_names","_law_last","_law_sign","_law_node","_law_text"] ["_law_one"] [] (af fM) rfl rfl rfl ⟨by decide +kernel,by decide +kernel,by decide +kernel,by decide +kernel,by decide +kernel⟩ scRe.nd rfl (Or.inl rfl) (aQ (aJ bj (zpv 0) ag (fun _ _=>rfl))) (fun s H fp=>(aq (i:=0) (show List.Nodup [("_law_one" : Str)] by decide +kernel) rfl (Or.inl rfl))) (fun s H fp=>bM) (fun s H fp=>(aJ (dL K rfl) (zpv 0) ag (fun _ _=>rfl))))
   (ae (aH (SPW.pt (be (aR (aI (au aV (by rfl) B.isi aW (ac (zpv 2) (ac (ba (by rfl) B.list boot_list (v:=.ty "list") rfl) aa))))) (bh (aA (mK hr.units60) (zpv 2) (aO aa) (aG _))))) (ah (ay bQ)) az)
   (ae (ax (i:=6) scRe.nd rfl (Or.inl rfl) (j1 i7 ag))
   (ae (cE PassesOwn.never rfl (aQ (zpv 2)) (df rfl (aE (aq (i:=7) scRe.nd rfl (Or.inl rfl)) (aE (aq (i:=8) scRe.nd rfl (Or.inl rfl)) bw)))
     (ae (ax (i:=9) scRe.nd rfl (Or.inl rfl) (aS cM (zpv 3) (zpv 7)))
   (ae (aH (SPW.pt (be (aA qz (dg PySem.F.plainAttrs_list PySem.F.slot_list_index PySem.F.type_list_index kc (zpv 5) (ac (zpv 7) aa)) (zpv 6) (aG _)) (be (aI (au aV (by rfl) B.isi aW (ac (zpv 8) (ac (ba (by rfl) B.bool boot_bool (v:=.ty "bool") rfl) aa)))) (bh (aR (aI (aj GS (hr.mono (by omega)) (by rfl) mS kS bS .nil aw (ac (zpv 0) (ac (zpv 9) aa))))))))) (ah (ay bQ)) az)
   (ae (ax (i:=6) scRe.nd rfl (Or.inl rfl) (dg PySem.F.plainAttrs_list PySem.F.slot_list_index PySem.F.type_list_index kc (zpv 5) (ac (zpv 7) aa)))
   (ah (aH (aI (au aV (by rfl) B.isi aW (ac (zpv 8) (ac (ba (by rfl) B.int boot_int (v:=.ty "int") rfl) aa)))) (ae (aH (SPW.pt (be (aR (sH qz lf ag (zpv 8) (zpv 1))) (be (ng (rf hr.units1 (zpv 8) (zpv 4))) (bh (aR (aI (aj GI (hr.mono (by omega)) (by rfl) mI kI bI .nil aw (ac (zpv 0) (ac (zpv 9) aa))))))))) (ah (ay bQ)) az)
   (ah (oV hr.units1 (zpv 4) (zpv 8) (zpv 9)))) (ah (aH (aR (aI (aj GR hr (by rfl) mR kR bR .nil aw (ac (zpv 0) (ac (zpv 1) (ac (zpv 8) (ac (zpv 9) (ac (zpv 4) aa)))))))) (ah (ay bQ)) az))))))))
   (ah (ay bQ)))))),?_⟩
  have s100:∀{n:Nat},n≤100→n≤sizeLine:=fun h=>Nat.le_trans h (by decide);have xx:∀{G H':Hp},Same G H'→Ext D G H':=fun s b o _ h=>s b o h;have c6:=tg.c6;obtain ⟨L,as,rfl,hL,ib⟩:=it;obtain ⟨g1,g2,g3⟩:=gt;have hLH:=s0 _ _ hL;have al:=ib.len;obtain ⟨S,Fr,Pp,xs',h1,h2,rows,h4,h5⟩:=(tg.kp (Kp.same s0)).ex;refine ⟨_,rfl,t,_,_,_,rfl,rfl,SqT.of h1,rfl,S,rfl,⟨_,SqL.of h2⟩,fun N hN=>?_⟩;refine de (xs:=xs') (fun i σ G=>(∃v,σ=[v])∧Same H G∧G N=some (.lst (txs (sgs (cs.take i))))) ⟨⟨_,rfl⟩,aF hN,ai⟩ (fun i σ G p=>SqL.of (p.2.1 _ _ h2)) ?_ ?_
  ·rintro i x σ G C hx ⟨⟨v,rfl⟩,sG,hNG⟩ nx;obtain ⟨c,hc,row⟩:=rows.at hx;have il:=(List.getElem?_eq_some_iff.mp hc).1;obtain ⟨b,p,la,rfl,hb,_⟩:=row.ex;have tc:cs.take (i + 1)=cs.take i ++ [c]:=by rw [List.take_add_one,hc]; rfl
   dsimp only [cF];refine ⟨_,rfl,b,_,_,_,rfl,rfl,SqT.of (sG _ _ hb),rfl,_,hNG,?_,nx _ _ ⟨⟨_,rfl⟩,fun u o h=>by rw [am (ak h hN)]; exact sG _ _ h,?_⟩⟩
   ·rw [aX];unfold sgs;rw [List.length_map,List.length_take];exact Nat.lt_of_le_of_lt (show min i cs.length≤6 by omega) (by decide)
   ·rw [ai,tc];unfold txs sgs;rw [List.map_append,List.map_append]; rfl
  rintro σ H1 ⟨⟨v,rfl⟩,s1,hN1⟩;rw [rows.len,List.take_length] at hN1;have S1:Same H0 H1:=s0.trans s1;have hL1:=s1 _ _ hLH;refine ⟨_,rfl,_,_,_,true,rfl,.of (.lst hL1),.inl ⟨_,rfl,kl1⟩,_,rfl,aU ?_⟩;refine ⟨_,rfl,Nat.zero_le _,fun e0 he0=>?_⟩;have s2:=aF (o:=.lst []) he0;have e00:(upd H1 e0 (.lst [])) e0=some (.lst []):=ai;generalize upd H1 e0 (.lst [])=H2 at s2 e00 ⊢;have x02:Ext D H H2:=xx (s1.trans s2);cases bs with
  | nil=>
   have:as=[]:=ib;subst this;exact ⟨0,true,by decide,cU (SqL.of (s2 _ _ hL1)) (SqL.of e00) nofun,_,rfl,bc (q2 (by rw [rdN]) _ x02)⟩
  | cons c0 t0 bs0=>
  refine ⟨0,false,by decide,.lens (SqL.of (s2 _ _ hL1)) (SqL.of e00) (by rw [List.length_map,al]; exact Nat.succ_ne_zero _),_,rfl,aU ?_⟩;have S02:Same H0 H2:=S1.trans s2;have nN:N≠D:=fun e=>by rw [e,hD] at hN; cases hN
  have eq0:∀E,rdN (fun z=>stB cs fs ps lg (.str z)) (fun z=>wdB H0 xs cs fs ps lg (.str z)) many cs (.br (.cons c0 t0 bs0)) z E=rdB (fun z=>stB cs fs ps lg (.str z)) (fun z=>wdB H0 xs cs fs ps lg (.str z)) many cs (.cons c0 t0 bs0) z 0 E:=fun E=>by rw [rdN]
  rw [eq0] at q1 q2;have hD2:=s2 _ _ (s1 _ _ hD);have hN2:=s2 _ _ hN1;refine ⟨_,rfl,_,rfl,L,rfl,⟨_,SqL.of (s2 _ _ hL1)⟩,dA (K:=K) (a:=L) (xs:=as.map V.ref) (fun i σ G=>∃(la:Int) (l1:Nat) (v7 v8 v9:Option V) (rest:Bs) (E1:List (Nat × Str)),σ=[some (.ref t),some (.int many),some (.ref L),some (.str z),some (.ref D),some (.ref N),some (.int la),v7,v8,v9]∧la + 1=l1∧Ext D H2 G∧G D=some (.dK (E1.map pr))∧InvE many E1∧IsB H0 rest (as.drop i)∧GB cs 20 (dd - 1) rest∧
    rdB (fun z=>stB cs fs ps lg (.str z)) (fun z=>wdB H0 xs cs fs ps lg (.str z)) many cs (.cons c0 t0 bs0) z 0 Es=rdB (fun z=>stB cs fs ps lg (.str z)) (fun z=>wdB H0 xs cs fs ps lg (.str z)) many cs rest z l1 E1)
   ⟨-1,0,_,_,_,_,Es,rfl,rfl,xx (Same.refl _),hD2,iv,ib,g3,rfl⟩ (fun i σ G _ p=>by
    obtain ⟨_,_,_,_,_,_,_,_,_,x,_⟩:=p;exact SqL.of (x _ _ (fun e=>by rw [e,hD0] at hL; cases hL) (S02 _ _ hL))) ?_ ?_⟩
  ·rintro i y σ G hy ⟨la,l1,v7,v8,v9,rest,E1,rfl,hla,xG,hDG,iv1,ibr,gbr,eqr⟩;rw [List.getElem?_map] at hy;obtain ⟨a,ha,e⟩:=Option.map_eq_some_iff.mp hy;cases e;have sG:Same H0 G:=fun b o h=>xG b o (fun e=>by rw [e,hD0] at h; cases h) (S02 _ _ h);have hNG:=xG _ _ nN hN2;have il:=(List.getElem?_eq_some_iff.mp ha).1;have dr:as.drop i=a :: as.drop (i + 1):=by rw [List.drop_eq_getElem_cons il]; congr 1; rw [List.getElem?_eq_getElem il] at ha; cases ha; rfl
   rw [dr] at ibr;cases rest with
   | nil=>cases (show a :: as.drop (i + 1)=[] from ibr)
   | cons c t1 bs1=>
   obtain ⟨a',v1,rs,ee,ha0,it1,ib1⟩:=ibr;injection ee with ea er;subst ea;subst er;obtain ⟨hc,gt1,gb1⟩:=gbr;have haG:=sG _ _ ha0;have xH:∀{G':Hp},Ext D G G'→Ext D H G':=fun x b o h1 h2=>x b o h1 (xG b o h1 (x02 b o h1 h2));obtain ⟨ix1,ix2⟩:=vC tg.nd hc;have ilc:=List.idxOf_lt_length_of_mem hc;have zl1:(z ++ sg1 c).length=z.length + 1:=by rw [← cJ,← cJ,dz,List.length_append]; rfl
   have z1:(sg1 c).length=1:=rfl;dsimp only [cF];refine ⟨a,_,rfl,SqT.of haG,rfl,_,_,rfl,_,_,rfl,rfl,?_⟩;refine ⟨_,rfl,_,rfl,z,sg1 c,rfl,rfl,s100 (by rw [z1]; omega),?_⟩;refine ⟨_,rfl,.inl ⟨rfl,_,SqL.of hNG⟩,_,rfl,N,_,_,cs.idxOf c,rfl,rfl,SqL.of hNG,cy _,rfl,ix1,ix2,_,rfl,_,_,rfl,rfl,_,rfl,bE (fun e=>?_) (fun e=>?_)⟩
   ·have:((cs.idxOf c:Nat):Int)≤la:=of_decide_eq_true e;exact bc (q2 (eqr.trans (xC (by omega))) G (xH (xx (Same.refl _))))
   have hlc:l1≤cs.idxOf c:=by
    have:¬((cs.idxOf c:Nat):Int)≤la:=fun z=>e (decide_eq_true z);omega
   have tgG:=tg.kp (Kp.same sG);have nxt:∀E',stB cs fs ps lg (.str (z ++ sg1 c))=true→rdN (fun z=>stB cs fs ps lg (.str z)) (fun z=>wdB H0 xs cs fs ps lg (.str z)) many cs t1 (z ++ sg1 c) E1=some E'→∀G',Ext D G G'→G' D=some (.dK (E'.map pr))→∃(la:Int) (l1:Nat) (v7 v8 v9:Option V) (rest:Bs) (E1:List (Nat × Str)),[some (.ref t),some (.int many),some (.ref L),some (.str z),some (.ref D),some (.ref N),some (.int ((cs.idxOf c:Nat):Int)),some (.str (sg1 c)),some v1,some (.str (z ++ sg1 c))]=[some (.ref t),some (.int many),some (.ref L),some (.str z),some (.ref D),some (.ref N),some (.int la),v7,v8,v9]∧la + 1=l1∧Ext D H2 G'∧G' D=some (.dK (E1.map pr))∧InvE many E1∧IsB H0 rest (as.drop (i + 1))∧GB cs 20 (dd - 1) rest∧
     rdB (fun z=>stB cs fs ps lg (.str z)) (fun z=>wdB H0 xs cs fs ps lg (.str z)) many cs (.cons c0 t0 bs0) z 0 Es=rdB (fun z=>stB cs fs ps lg (.str z)) (fun z=>wdB H0 xs cs fs ps lg (.str z)) many cs rest z l1 E1:=fun E' hs e G' x hd=>
    ⟨_,cs.idxOf c + 1,_,_,_,bs1,E',rfl,by omega,fun b o h1 h2=>x b o h1 (xG b o h1 h2),hd,iv1.rd e,ib1,gb1,eqr.trans (vH hlc hs e)⟩
   have bad:rdN (fun z=>stB cs fs ps lg (.str z)) (fun z=>wdB H0 xs cs fs ps lg (.str z)) many cs t1 (z ++ sg1 c) E1=none→∀G',Ext D G G'→Q (.bl false) G':=fun e G' x=>q2 (eqr.trans (vG e)) G' (xH x);have bads:stB cs fs ps lg (.str (z ++ sg1 c))=false→∀G',Ext D G G'→Q (.bl false) G':=fun e G' x=>q2 (eqr.trans (xD e)) G' (xH x);clear q1 q2 eqr;cases t1 with
   | yes=>
    have ev:v1 = .bl true:=it1;subst ev;refine ⟨_,rfl,_,_,_,true,rfl,.of (.bl true),.inl ⟨_,rfl,kb2⟩,_,rfl,bc (bc ?_)⟩;exact bad (by rw [rdN]) G (xx (Same.refl _))
   | num n=>
    have ev:v1 = .int n:=it1;subst ev;refine ⟨_,rfl,_,_,_,false,rfl,.of (.int n),.inl ⟨_,rfl,kb1⟩,_,rfl,aU ?_⟩;refine ⟨_,rfl,_,rfl,t,cs,fs,ps,lg,.str (z ++ sg1 c),rfl,tgG,.str _,fun z' e=>by cases e; exact s100 (by rw [zl1]; omega),fun G1 s3=>⟨_,rfl,?_⟩⟩;cases hst:stB cs fs ps lg (.str (z ++ sg1 c)) with
    | false=>exact bc (bads hst _ (xx s3))
    | true=>
    refine aU ⟨_,rfl,.inl ⟨rfl,_,SqL.of (s3 _ _ hNG)⟩,_,rfl,N,_,_,cs.idxOf c,rfl,rfl,SqL.of (s3 _ _ hNG),cy _,rfl,ix1,ix2,?_⟩;refine ⟨_,rfl,_,_,_,true,rfl,.of (.int n),.inl ⟨_,rfl,ki1⟩,_,rfl,bc ?_⟩;rw [vy] at nxt bad;have xg:∀{G':Hp},Same G1 G'→Ext D G G':=fun s b o h1 h2=>s _ _ (s3 _ _ h2);refine ⟨_,rfl,_,_,rfl,rfl,_,rfl,bE (fun e0=>?_) (fun e0=>?_)⟩
    ·have h0:0≤n:=of_decide_eq_true e0;refine ⟨_,rfl,_,_,rfl,rfl,_,rfl,?_⟩
     by_cases hb:n < many
     ·rw [decide_eq_true hb];refine aU ⟨_,rfl,_,rfl,D,_,rfl,DGet.k (k:=Sum.inl n) (s3 _ _ hDG),_,rfl,?_⟩;rw [iW];cases hs:(E1.all fun e=>decide ((e.1:Int)≠n)) with
      | false=>exact bc (bc (bad (if_neg (by rw [hs]; simp)) G1 (xg (Same.refl _))))
      | true=>
       refine aU ⟨_,rfl,_,rfl,t,xs,cs,fs,ps,lg,.str (z ++ sg1 c),rfl,tgG.kp (Kp.same s3),(tx.kp (Kp.same sG)).kp (Kp.same s3),.str _,fun z' e=>by cases e; exact s100 (by rw [zl1]; omega),fun G2 s4=>⟨_,rfl,?_⟩⟩;rw [nu (.str (z ++ sg1 c)) tx.rows (Kp.same (sG.trans s3))];cases hw:wdB H0 xs cs fs ps lg (.str (z ++ sg1 c)) with
       | false=>exact bc (bad (if_neg (by rw [hw]; simp)) G2 (xg s4))
       | true=>
        refine aU ⟨_,rfl,_,rfl,_,rfl,D,_,rfl,DPut.k (k:=Sum.inl n) (s4 _ _ (s3 _ _ hDG)) (by rw [List.length_map]; exact Nat.lt_of_le_of_lt (Nat.le_trans iv1.len m20) (by decide)),?_⟩;have e:pr (n.toNat,z ++ sg1 c)=(Sum.inl n,V.str (z ++ sg1 c)):=by
         show (Sum.inl ((n.toNat:Nat):Int),V.str (z ++ sg1 c))=_;rw [show ((n.toNat:Nat):Int)=n by omega]
        refine nxt _ hst (if_pos ⟨h0,hb,hs,hw⟩) _ (fun b o h1 h2=>by rw [am h1]; exact s4 _ _ (s3 _ _ h2)) ?_;rw [ai,ou _ (by
         have:=iW (E:=E1) (n:=n);rw [hs] at this
         simpa using this),List.map_append,List.map_cons,List.map_nil,e]
     ·rw [decide_eq_false hb];exact bc (bc (bad (if_neg fun z=>hb z.2.1) G1 (xg (Same.refl _))))
    ·have h0:¬0≤n:=fun z=>e0 (decide_eq_true z);exact ⟨_,rfl,bc (bad (if_neg fun z=>h0 z.1) G1 (xg (Same.refl _)))⟩
   | br bs2=>
    obtain ⟨L2,as2,ev,hL2,ib2⟩:=id it1;subst ev;refine ⟨_,rfl,_,_,_,false,rfl,.of (.lst (sG _ _ hL2)),.inl ⟨_,rfl,BA⟩,_,rfl,aU ?_⟩;refine ⟨_,rfl,_,rfl,t,cs,fs,ps,lg,.str (z ++ sg1 c),rfl,tgG,.str _,fun z' e=>by cases e; exact s100 (by rw [zl1]; omega),fun G1 s3=>⟨_,rfl,?_⟩⟩;cases hst:stB cs fs ps lg (.str (z ++ sg1 c)) with
    | false=>exact bc (bads hst _ (xx s3))
    | true=>
    refine aU ⟨_,rfl,.inl ⟨rfl,_,SqL.of (s3 _ _ hNG)⟩,_,rfl,N,_,_,cs.idxOf c,rfl,rfl,SqL.of (s3 _ _ hNG),cy _,rfl,ix1,ix2,?_⟩;refine ⟨_,rfl,_,_,_,false,rfl,.of (.lst (s3 _ _ (sG _ _ hL2))),.inl ⟨_,rfl,kli⟩,_,rfl,aU ?_⟩;refine ⟨_,rfl,_,rfl,_,rfl,_,rfl,_,rfl,H0,t,D,cs,fs,ps,lg,xs,many,dd - 1,bs2,_,z ++ sg1 c,E1,rfl,sG.trans s3,hD0,tg,tx,it1,gt1,by omega,by rw [zl1]; omega,m20,s3 _ _ hDG,iv1,fun E' e G' x hd=>⟨_,rfl,aU ?_⟩,fun e G' x=>⟨_,rfl,bc ?_⟩⟩
    ·exact nxt E' hst e G' (fun b o h1 h2=>x b o h1 (s3 _ _ h2)) hd
    ·exact bad e G' (fun b o h1 h2=>x b o h1 (s3 _ _ h2))
  ·rintro σ G ⟨la,l1,v7,v8,v9,rest,E1,rfl,hla,xG,hDG,iv1,ibr,gbr,eqr⟩;rw [List.length_map,List.drop_length] at ibr;have:rest = .nil:=by
    cases rest with
    | nil=>rfl
    | cons c t1 bs1=>obtain ⟨_,_,_,e,_⟩:=ibr; cases e
   subst this;rw [eqr,rdB] at q1;exact q1 _ rfl G (fun b o h1 h2=>xG b o h1 (x02 b o h1 h2)) hDG
theorem qq {f:Addr} {fd:FuncData} (F:FunG K "_law_reads" "_law_reads" fM .none f fd):FnOk P w K mg base (CXE P w) 4 f fd ["_law_tongue_here","_law_many","_law_thing","_law_begin","_law_found"] (iY 0):=by
 refine F.zokN scRe (fun vs H Q E h=>?_) (fun cdv A outer s H vs Q E hr h=>?_)
 ·obtain ⟨H0,t,D,cs,fs,ps,lg,xs,many,dd,bs,v,z,Es,rfl,_⟩:=h;rfl
 ·obtain ⟨H0,t,D,cs,fs,ps,lg,xs,many,dd,bs,v,z,Es,rfl,s0,hD0,tg,tx,it,gt,dk,_⟩:=h;exact absurd dk (Nat.not_lt_zero _)
theorem kg {f fS fI:Addr} {fd fdS fdI:FuncData} (F:FunG K "_law_reads" "_law_reads" fM .none f fd) (B:Bl mg)
  (GS:FnOk P w K mg base (CXE P w) 2 fS fdS ["_law_tongue_here","_law_thing"] ff) (mS:mg "_law_stands" = some (.ref fS)) (kS:PySem.W.keepIn K (.ref fS)=true) (bS:Binds K fdS ["_law_tongue_here","_law_thing"] [])
  (GI:FnOk P w K mg base (CXE P w) 3 fI fdI ["_law_tongue_here","_law_thing"] jm) (mI:mg "_law_is_word" = some (.ref fI)) (kI:PySem.W.keepIn K (.ref fI)=true) (bI:Binds K fdI ["_law_tongue_here","_law_thing"] [])
  (mR:mg "_law_reads" = some (.ref f)) (kR:PySem.W.keepIn K (.ref f)=true) (bR:Binds K fd ["_law_tongue_here","_law_many","_law_thing","_law_begin","_law_found"] []):∀k,FnOk P w K mg base (CXE P w) (k + 4) f fd ["_law_tongue_here","_law_many","_law_thing","_law_begin","_law_found"] (iY k)
 | 0=>qq F
 | k + 1=>tD F B GS mS kS bS GI mI kI bI (kg F B GS mS kS bS GI mI kI bI mR kR bR k) mR kR bR
end
section
variable {P:Program} {w:World} {K:PySem.W.Frag} {mg:Str→Option Value} {base:Heap} {c:List Addr}
def rz (T1 T2:Addr):Sp:=fun vs H Q _=>∃(t L:Addr) (cs:List Nat) (fs ps:List Str) (lg:Int) (many:Nat) (bs:Bs),vs=[.ref t,.int many,.ref L]∧Tg H t cs fs ps lg∧Tab T1 H∧Tab T2 H∧IsT H (.br bs) (.ref L)∧GT cs 20 12 (.br bs)∧many≤20∧∀H',Kp H H'→Tab T1 H'→Tab T2 H'→Q (.bl true) H'
theorem scRi:FnScope ["_law_tongue_here","_law_many","_law_thing","_law_kept","_law_told","_law_copied_here","e","_law_found"] ["_law_tongue_here","_law_many","_law_thing"] (af iB):=⟨rfl,rfl,rfl,by decide +kernel,rfl,by decide +kernel,by decide +kernel⟩
theorem vI {T1 T2 N:Addr} {f fC fO fR fU fT:Addr} {fd fdC fdO fdR fdU fdT:FuncData} (F:FunG K "_law_right" "_law_right" iB .none f fd) (B:Bl mg) (C:Cl K mg c) (hN:c.getD 1 0=N)
  (GC:FnOk P w K mg base (CXE P w) 26 fC fdC ["_law_thing"] (gP 25)) (mC:mg "_law_copied" = some (.ref fC)) (kC:PySem.W.keepIn K (.ref fC)=true) (bC:Binds K fdC ["_law_thing"] [])
  (GO:FnOk P w K mg base (CXE P w) 19 fO fdO ["tongue","many","thing"] (pw T1 T2 N)) (mO:mg "book_of" = some (.ref fO)) (kO:PySem.W.keepIn K (.ref fO)=true) (bO:Binds K fdO ["tongue","many","thing"] [])
  (GR:FnOk P w K mg base (CXE P w) 17 fR fdR ["_law_tongue_here","_law_many","_law_thing","_law_begin","_law_found"] (iY 13)) (mR:mg "_law_reads" = some (.ref fR)) (kR:PySem.W.keepIn K (.ref fR)=true) (bR:Binds K fdR ["_law_tongue_here","_law_many","_law_thing","_law_begin","_law_found"] [])
  (GU:FnOk P w K mg base (CXE P w) 1 fU fdU ["_law_kept"] (mi N)) (mU:mg "_law_is_refusal" = some (.ref fU)) (kU:PySem.W.keepIn K (.ref fU)=true) (bU:Binds K fdU ["_law_kept"] [])
  (GT:FnOk P w K mg base (CXE P w) 18 fT fdT ["tongue","book"] (pf T1 T2)) (mT:mg "tree_of" = some (.ref fT)) (kT:PySem.W.keepIn K (.ref fT)=true) (bT:Binds K fdT ["tongue","book"] []):FnOk P w K mg base (CXE P w) 27 f fd ["_law_tongue_here","_law_many","_law_thing"] (rz T1 T2):=by
 refine F.zokN scRi (fun vs H Q E h=>?_) (fun cdv A outer s H vs Q E hr h=>?_)
 ·obtain ⟨t,L,cs,fs,ps,lg,many,bs,rfl,_⟩:=h;rfl
 ·obtain ⟨t,L,cs,fs,ps,lg,many,bs,rfl,tg,t1,t2,it,gt,m20,q⟩:=h;refine ⟨_,(ae (ax (i:=3) scRi.nd rfl (Or.inl rfl) hX)
   (ae (ax (i:=4) scRi.nd rfl (Or.inl rfl) hX)
   (ae (ax (i:=5) scRi.nd rfl (Or.inl rfl) (aj GC hr (by rfl) mC kC bC .nil aw (ac (zpv 2) aa)))
   (ae (pX (j:=6) (uQ (i:=4) scRi.nd rfl (Or.inl rfl) (sJ GO (hr.mono (by decide)) (by rfl) mO kO bO .nil (ac (zpv 0) (ac (zpv 1) (ac (zpv 2) aa))))) scRi.nd rfl rfl rfl rfl (by rfl) C.dear C.catch_ (fun e=>(ah (ax (i:=3) scRi.nd rfl (Or.inl rfl) (zpv 6)))))
   (ae (aH (aA (jW hr.units60) (zpv 2) (zpv 5) (aG _)) (ah (ay bQ)) az)
   (ae (ax (i:=7) scRi.nd rfl (Or.inr rfl) lS)
   (ae (aH (SPW.pt (be (aR (aI (aj GR (hr.mono (by decide)) (by rfl) mR kR bR .nil aw (ac (zpv 0) (ac (zpv 1) (ac (zpv 2) (aM cj (ac (zpv 7) aa)))))))) (bh (aA kQ (au mj (by rfl) B.len PySem.boot_len (ac (zpv 7) aa)) (zpv 1) (aG _))))) (ah (ay (aj GU (hr.mono (by decide)) (by rfl) mU kU bU .nil aw (ac (zpv 3) aa)))) az)
   (ae (aH (SPW.pt (be (ng (uO (zpv 3))) (be (aR (aI (au aV (by rfl) B.isi aW (ac (zpv 4) (ac (ba (by rfl) B.list boot_list (v:=.ty "list") rfl) aa))))) (bh (aA (jW hr.units60) (zpv 4) (cx ["_law_tongue_here","_law_many","_law_thing","_law_kept","_law_told","_law_copied_here","e","_law_found"] ["_law_number"] [7] (af iB) rfl rfl rfl ⟨by decide +kernel,by decide +kernel,by decide +kernel,by decide +kernel,by decide +kernel⟩ (dw (by rfl) B.range (ac (zpv 1) aa)) (fun s H fp=>(aq (i:=0) (show List.Nodup [("_law_number" : Str),"_law_found"] by decide +kernel) rfl (Or.inl rfl))) (fun s H fp=>bM) (fun s H fp=>(j4 hr.units1 (zpv 1) (zpv 0) (fun _ _=>rfl)))) (aG _)))))) (ah (ay bQ)) az)
   (ah (ay (bx (mK hr.units60) (aj GT (hr.mono (by decide)) (by rfl) mT kT bT .nil aw (ac (zpv 0) (ac (zpv 4) aa))) (zpv 2) (aG _)))))))))))),?_⟩
  obtain ⟨xs,tx⟩:=tg.x;refine ⟨_,rfl,cs,12,_,rfl,.inr (.inl ⟨.br bs,it,gt,by decide,fun v' H1 s1 nt=>?_⟩)⟩;have k1:Kp H H1:=Kp.same s1;have tg1:=tg.kp k1;have tx1:=tx.kp k1;obtain ⟨L',as',rfl,hL',ib'⟩:=nt.is;have itc:IsT H1 (.br bs) (.ref L'):=⟨L',as',rfl,hL',ib'⟩;have it1:=IsT.kp k1 it;have like:∀{K:PySem.W.Frag} {G:Hp},Kp H1 G→TopR K G (EqD K G 24) (.ref L) (.ref L') true:=fun {K G} k=>by
   obtain ⟨L0,as,e0,hL,_⟩:=IsT.kp k it1;cases e0;exact vz (IsT.alike (d:=12) (n:=25) gt (by decide) (IsT.kp k it1) (IsT.kp k itc)) hL
  have rd:∀{G:Hp},Kp H1 G→(fun z=>wdB G xs cs fs ps lg (.str z))=fun z=>wdB H1 xs cs fs ps lg (.str z):=fun k=>funext fun z=>nu (.str z) tx1.rows k;refine ⟨_,rfl,_,rfl,_,rfl,t,L,cs,fs,ps,lg,xs,many,bs,rfl,tg1,tx1,t1.same s1,t2.same s1,it1,gt,m20,fun Es e len Bk H2 k2 t12 t22 hBk=>?_,fun bad H2 k2 t12 t22=>?_⟩
  ·refine ⟨_,rfl,_,rfl,24,true,by decide,like k2,_,rfl,aU ?_⟩;intro D hD;have s3:=aF (o:=.dK []) hD;have eD:(upd H2 D (.dK [])) D=some (.dK []):=ai;generalize upd H2 D (.dK [])=H3 at s3 eD ⊢;refine ⟨_,rfl,_,rfl,_,rfl,_,rfl,H2,t,D,cs,fs,ps,lg,xs,many,12,bs,_,"",[],rfl,s3,hD,tg1.kp k2,tx1.kp k2,IsT.kp k2 it1,gt,by decide,by decide,m20,eD,⟨.nil,nofun⟩,fun E1 e1 G x hG=>⟨_,rfl,?_⟩,fun e1=>?_⟩
   ·rw [rd k2,e] at e1;cases e1;have s2G:Same H2 G:=fun b o h=>x b o (fun e=>by rw [e,hD] at h; cases h) (s3 _ _ h);refine aU ⟨_,rfl,D,_,rfl,hG,_,rfl,rfl,_,rfl,?_⟩;rw [List.length_map,show (!decide (V.int (Es.length:Int)=V.int (many:Int)))=false by rw [len]; simp];refine aU ?_;have hBkG:=s2G _ _ hBk;have kG:Kp H1 G:=k2.trans (Kp.same s2G);refine ⟨_,rfl,_,rfl,bE (fun e=>absurd e (by simp)) (fun _=>?_)⟩;refine ⟨_,rfl,_,_,_,true,rfl,.of (.lst hBkG),.inl ⟨_,rfl,kl1⟩,_,rfl,aU ?_⟩;refine ⟨_,rfl,_,rfl,_,rfl,by omega,by omega,?_⟩;have iv:=InvE.rd (many:=many) ⟨.nil,nofun⟩ e;obtain ⟨book,pm,at_⟩:=nG e len tg.l8 m20
    (intro M gM; generalize hEq:upd _ M _=G3; refine aZ hEq gM ?_; clear hEq; intro S3 eM o3)
    rw [show ((many:Nat):Int).toNat=many from Int.toNat_natCast _];refine oC (fun i σ G'=>(∃v,σ=[v,some (.ref D)])∧Same G G'∧G' M=some (.lst (txs ((List.range i).map (gO Es))))) ⟨⟨_,rfl⟩,S3,eM⟩ ?_ ?_
    ·rintro i σ G' C hi ⟨⟨v,rfl⟩,sG,hM⟩ nx;dsimp only [cF];rw [show (0:Int) + (i:Int)=(i:Int) from Int.zero_add _];have fv:cW (Es.map pr) (Sum.inl (i:Int):Key)=some (V.str (gO Es i)):=rq iv.nd (at_ i hi);refine ⟨_,rfl,_,rfl,D,_,rfl,fv ▸ DGet.k (k:=Sum.inl (i:Int)) (sG _ _ hG),_,hM,?_,nx _ _ ⟨⟨_,rfl⟩,fun u o h=>by rw [am (ak h gM)]; exact sG _ _ h,?_⟩⟩
     ·rw [aX,List.length_map,List.length_range];exact Nat.lt_of_lt_of_le hi (Nat.le_trans m20 (by decide))
     ·rw [ai,List.range_succ,List.map_append,List.map_cons,List.map_nil];unfold txs;rw [List.map_append]; rfl
    rintro σ G' ⟨⟨v,rfl⟩,sG,hM⟩;have kG':Kp H1 G':=kG.trans (Kp.same sG);have s2G':Same H2 G':=s2G.trans sG;refine ⟨0,true,by decide,cU (SqL.of (sG _ _ hBkG)) (SqL.of hM) (fun y hy=>.inl (jo y hy)),_,rfl,aU ?_⟩;refine ⟨_,rfl,_,rfl,t,Bk,cs,fs,ps,lg,jy Es many,rfl,tg1.kp kG',t12.same s2G',t22.same s2G',sG _ _ hBkG,book,fun T fp G4 k4 t14 t24 br _=>?_⟩;have k14:Kp H1 G4:=kG'.trans k4;refine ⟨_,rfl,24,true,by decide,?_,q G4 (k1.trans k14) t14 t24⟩;obtain ⟨rows,hT,_⟩:=(id br:BrV cs G4 (7 + 1) 0 (enT 0 (jy Es many)) T fp);refine vz (as:=rows.map Rw.t) (AB tg.nd (n:=25) e gt (by decide) (d:=0) rfl pm (.inr ⟨lZ book,T,fp,rfl,br⟩) (IsT.kp k14 it1)) ?_;rw [hT,List.map_map]; rfl
   ·rw [rd k2,e] at e1;cases e1
  ·refine ⟨N,rfl,hN ▸ C.up,fun e he=>?_⟩;have s3:Same H2 (upd H2 e (jR N e none)):=aF he;have ee:(upd H2 e (jR N e none)) e=some (jR N e none):=ai;refine ⟨_,rfl,?_⟩;generalize upd H2 e (jR N e none)=H3 at s3 ee ⊢;have k3:Kp H1 H3:=k2.trans (Kp.same s3);refine ⟨_,rfl,_,rfl,24,true,by decide,like k3,_,rfl,aU ?_⟩;intro D hD;have s4:=aF (o:=.dK []) hD;have eD:(upd H3 D (.dK [])) D=some (.dK []):=ai;generalize upd H3 D (.dK [])=H4 at s4 eD ⊢;have fin:∀{G:Hp},Ext D H4 G→G e=some (yQ N e)∧∀G',Same G G'→Q (.bl true) G':=fun {G} x=>by
    have s3G:Same H3 G:=fun b o h=>x b o (fun e=>by rw [e,hD] at h; cases h) (s4 _ _ h);refine ⟨s3G _ _ ee,fun G' s=>?_⟩;have k:=(k3.trans (Kp.same s3G)).trans (Kp.same s);exact q G' (k1.trans k) (((t12.same s3).same s3G).same s) (((t22.same s3).same s3G).same s)
   refine ⟨_,rfl,_,rfl,_,rfl,_,rfl,H3,t,D,cs,fs,ps,lg,xs,many,12,bs,_,"",[],rfl,s4,hD,tg1.kp k3,tx1.kp k3,IsT.kp k3 it1,gt,by decide,by decide,m20,eD,⟨.nil,nofun⟩,fun E1 e1 G x hG=>⟨_,rfl,?_⟩,fun e1 G x=>⟨_,rfl,?_⟩⟩
   ·rw [rd k3] at e1;have ne:=bad E1 e1;obtain ⟨f1,f2⟩:=fin x;refine aU ⟨_,rfl,D,_,rfl,hG,_,rfl,rfl,_,rfl,?_⟩;rw [List.length_map,show (!decide (V.int (E1.length:Int)=V.int (many:Int)))=true by rw [decide_eq_false (fun z=>by injection z with z; omega)]; rfl];refine bc ⟨_,rfl,e,rfl,f1,f2⟩
   ·obtain ⟨f1,f2⟩:=fin x;exact bc (bc ⟨_,rfl,e,rfl,f1,f2⟩)
end
def PrL (H:Hp) (A:Addr) (ts:List (Str × Int)):Prop:=∃as:List Addr,H A=some (.lst (as.map V.ref))∧as.length=ts.length∧∀(j:Nat) (a:Addr) (p:Str × Int),as[j]? = some a→ts[j]? = some p→H a=some (.tup [.str p.1,.int p.2])
theorem PrL.same {H H':Hp} {A:Addr} {ts:List (Str × Int)} (h:PrL H A ts) (s:Same H H'):PrL H' A ts:=by
 obtain ⟨as,h1,h2,h3⟩:=h;exact ⟨as,s _ _ h1,h2,fun j a p e1 e2=>s _ _ (h3 j a p e1 e2)⟩
theorem PrL.snoc {G:Hp} {M b:Addr} {xs:List V} {ts:List (Str × Int)} {p:Str × Int} (h:PrL G M ts) (hM:G M=some (.lst xs)) (hb:G b=some (.tup [.str p.1,.int p.2])):PrL (upd G M (.lst (xs ++ [V.ref b]))) M (ts ++ [p]):=by
 obtain ⟨ad,h1,h2,h3⟩:=h;rw [hM] at h1;cases h1;have tn:∀{a:Addr} {ys:List V},G a=some (.tup ys)→a≠M:=fun {a ys} e z=>by rw [z,hM] at e; cases e
 refine ⟨ad ++ [b],by rw [ai,List.map_append]; rfl,by rw [List.length_append,List.length_append,h2]; rfl,fun i a y e1 e2=>?_⟩
 by_cases hi:i < ad.length
 ·rw [List.getElem?_append_left hi] at e1;rw [List.getElem?_append_left (by omega)] at e2;have q:=h3 i a y e1 e2;rw [am (tn q)]; exact q
 ·rw [List.getElem?_append_right (by omega)] at e1;have il:=(List.getElem?_eq_some_iff.mp e1).1;have i0:i - ad.length=0:=by
   simp at il; omega
  rw [i0] at e1;cases e1;rw [List.getElem?_append_right (by omega),show i - ts.length=0 by omega] at e2;cases e2;rw [am (tn hb)]; exact hb
def Bs.snoc:Bs→Nat→TT→Bs
 | .nil,c,t=>.cons c t .nil
 | .cons d u bs,c,t=>.cons d u (bs.snoc c t)
theorem Bs.snoc_len:∀{bs:Bs} {c:Nat} {t:TT},(bs.snoc c t).len=bs.len + 1
 | .nil,c,t=>rfl
 | .cons d u bs,c,t=>by show (bs.snoc c t).len + 1=bs.len + 1 + 1; rw [Bs.snoc_len]
theorem GB.snoc {cs:List Nat} {w d:Nat} {c:Nat} {t:TT} (hc:c∈cs) (ht:GT cs w d t):∀{bs:Bs},GB cs w d bs→GB cs w d (bs.snoc c t)
 | .nil,_=>⟨hc,ht,trivial⟩
 | .cons _ _ bs,⟨a,b,e⟩=>⟨a,b,GB.snoc hc ht e⟩
theorem NB.snoc {O H:Hp} {c:Nat} {t:TT} {a:Addr} {v:V} (ha:H a=some (.tup [.str (sg1 c),v])) (ht:NT O H t v):∀{bs:Bs} {as:List Addr},NB O H bs as→NB O H (bs.snoc c t) (as ++ [a])
 | .nil,as,h=>by rw [show as=[] from h]; exact ⟨a,v,[],rfl,ha,ht,rfl⟩
 | .cons d u bs,as,⟨b,x,r,e,h1,h2,h3⟩=>⟨b,x,r ++ [a],by rw [e]; rfl,h1,h2,NB.snoc ha ht h3⟩
mutual
def NyT:TT→Prop
 | .num _=>True
 | .yes=>False
 | .br bs=>NyB bs
def NyB:Bs→Prop
 | .nil=>True
 | .cons _ t bs=>NyT t∧NyB bs
end
theorem NyB.snoc {c:Nat} {t:TT} (ht:NyT t):∀{bs:Bs},NyB bs→NyB (bs.snoc c t)
 | .nil,_=>⟨ht,trivial⟩
 | .cons _ _ bs,⟨a,b⟩=>⟨a,NyB.snoc ht b⟩
theorem vJ {z:Str} {c:Nat} (h:eR z none (some (1:Int))=sg1 c):(eR z (some (1:Int)) none).length + 1=z.length:=by
 have h1:1≤z.length:=by
  have e:=congrArg Str.length h;have:=iN z none (some (1:Int));rw [e] at this;exact this
 have e:HT.sIx z.length 0 (some (1:Int))=1:=by rw [show (1:Int)=((1:Nat):Int) from rfl,HT.sIx_nat]; omega
 rw [← cJ,← cJ];unfold eR Lz;rw [e];have l0:z.cps.toList.length=z.length:=by show (Lz z).length=_; exact cJ z
 simp only [List.length_take,List.length_drop,l0];show min (z.length - 1) (z.length - 1) + 1=_;omega
section
variable {P:Program} {w:World} {K:PySem.W.Frag} {mg:Str→Option Value} {base:Heap}
def iZ (k:Nat):Sp:=fun vs H Q _=>∃(N En:Addr) (cs:List Nat) (ts:List (Str × Int)),vs=[.ref N,.ref En]∧H N=some (.lst (txs (sgs cs)))∧cs.length≤6∧PrL H En ts∧ts≠[]∧ts.length≤100∧(∀p∈ts,p.1.length < k)∧k≤50∧
 ∀L bs H',Same H H'→NT H H' (.br bs) (.ref L)→GT cs 6 k (.br bs)→NyB bs→Q (.ref L) H'
theorem scGr:FnScope ["_law_names","_law_ends","_law_found","_law_sign","_law_some"] ["_law_names","_law_ends"] (af eT):=⟨rfl,rfl,rfl,by decide +kernel,rfl,by decide +kernel,by decide +kernel⟩
theorem vK {k:Nat} {f:Addr} {fd:FuncData} (F:FunG K "_law_grown" "_law_grown" eT .none f fd) (B:Bl mg)
  (GG:FnOk P w K mg base (CXE P w) (k + 1) f fd ["_law_names","_law_ends"] (iZ k)) (mG:mg "_law_grown" = some (.ref f)) (kG:PySem.W.keepIn K (.ref f)=true) (bG:Binds K fd ["_law_names","_law_ends"] []):FnOk P w K mg base (CXE P w) (k + 2) f fd ["_law_names","_law_ends"] (iZ (k + 1)):=by
 refine F.zokN scGr (fun vs H Q E h=>?_) (fun cdv A outer s H vs Q E hr h=>?_)
 ·obtain ⟨N,En,cs,ts,rfl,_⟩:=h;rfl
 ·obtain ⟨N,En,cs,ts,rfl,hN,c6,hE,ne,t100,sz,k50,q⟩:=h;refine ⟨_,(ae (ax (i:=2) scGr.nd rfl (Or.inl rfl) (aO aa))
   (ae (cE PassesOwn.never rfl (aQ (zpv 0)) (aq (i:=3) scGr.nd rfl (Or.inr rfl))
     (ae (h8 (i:=4) ["_law_names","_law_ends","_law_found","_law_sign","_law_some"] ["_law_rest","_law_number"] [3] (af eT) rfl rfl rfl ⟨by decide +kernel,by decide +kernel,by decide +kernel,by decide +kernel,by decide +kernel⟩ scGr.nd rfl (Or.inl rfl) (aQ (zpv 1)) (fun s H fp=>(eC K 2 rfl rfl (aE (aq (i:=0) (show List.Nodup [("_law_rest" : Str),"_law_number","_law_sign"] by decide +kernel) rfl (Or.inl rfl)) (aE (aq (i:=1) (show List.Nodup [("_law_rest" : Str),"_law_number","_law_sign"] by decide +kernel) rfl (Or.inl rfl)) bw)))) (fun s H fp=>(dh (aA cz (ce jX (zpv 0) cG (cH ag)) (zpv 2) (aG _)))) (fun s H fp=>(aY (cI (ce jX (zpv 0) (cH ag) cG) (ac (zpv 1) aa)))))
   (ah (aH (aA (jW hr.units60) (cx ["_law_names","_law_ends","_law_found","_law_sign","_law_some"] ["_law_rest","_law_number"] [] (af eT) rfl rfl rfl ⟨by decide +kernel,by decide +kernel,by decide +kernel,by decide +kernel,by decide +kernel⟩ (aQ (zpv 4)) (fun s H fp=>(eC K 2 rfl rfl (aE (aq (i:=0) (show List.Nodup [("_law_rest" : Str),"_law_number"] by decide +kernel) rfl (Or.inl rfl)) (aE (aq (i:=1) (show List.Nodup [("_law_rest" : Str),"_law_number"] by decide +kernel) rfl (Or.inl rfl)) bw)))) (fun s H fp=>(dh (aA cz (zpv 0) cj (aG _)))) (fun s H fp=>(zpv 0))) (aO aa) (aG _)) (ah (bK (dg PySem.F.plainAttrs_list PySem.F.slot_list_append PySem.F.type_list_append cP (zpv 2) (cu (aY (ac (zpv 3) (cI (aJ bj (aJ bi (zpv 4) ag (fun _ _=>rfl)) ag (fun _ _=>rfl)) aa))) aa)))) (ah (aH (aA (jW hr.units60) (zpv 4) (aO aa) (aG _)) (ah (bK (dg PySem.F.plainAttrs_list PySem.F.slot_list_append PySem.F.type_list_append cP (zpv 2) (cu (aY (ac (zpv 3) (bt (aj GG hr (by rfl) mG kG bG .nil aw (ac (zpv 0) (ac (zpv 4) aa))) aa))) aa)))) az))))))
   (ah (ay (zpv 2))))),?_⟩
  have s100:∀{n:Nat},n≤100→n≤sizeLine:=fun h=>Nat.le_trans h (by decide);refine ⟨Nat.zero_le _,?_⟩
  (intro Fo gF; generalize hEq:upd _ Fo _=O; refine aZ hEq gF ?_; clear hEq; intro S0 eF o0)
  have oF:O Fo≠none:=by rw [eF]; nofun
  obtain ⟨asE,hEn,lE,tE⟩:=hE;refine ⟨_,rfl,N,rfl,⟨_,SqL.of (S0 _ _ hN)⟩,dA (K:=K) (a:=N) (xs:=txs (sgs cs)) (fun i σ G=>∃(v3 v4:Option V) (as':List Addr) (bs:Bs),σ=[some (.ref N),some (.ref En),some (.ref Fo),v3,v4]∧Same H G∧(∀b,G b=none→O b=none)∧G Fo=some (.lst (as'.map V.ref))∧NB O G bs as'∧bs.len≤i∧GB cs 6 k bs∧NyB bs)
   ⟨_,_,[],.nil,rfl,S0,fun _ h=>h,eF,rfl,Nat.zero_le _,trivial,trivial⟩ (fun i σ G _ p=>by obtain ⟨_,_,_,_,_,s,_⟩:=p; exact SqL.of (s _ _ hN)) ?_ ?_⟩
  ·rintro i x σ G hx ⟨v3,v4,as',bs,rfl,sG,dG,hFG,nb,bl,gb,ny⟩;obtain ⟨c,hc,rfl⟩:=yl hx;have il:=(List.getElem?_eq_some_iff.mp hc).1;have cm:=List.mem_of_getElem? hc;have hEG:=sG _ _ hEn;refine ⟨_,rfl,En,rfl,⟨_,SqL.of hEG⟩,fun M hM=>?_⟩;refine de (xs:=asE.map V.ref) (fun j σ G2=>(∃v1 v2,σ=[v1,v2,some (.str (sg1 c))])∧Same G G2∧∃ss:List (Str × Int),PrL G2 M ss∧ss.length≤j∧∀p∈ss,p.1.length < k) ⟨⟨_,_,rfl⟩,aF hM,[],⟨[],ai,rfl,fun j a p e=>by simp at e⟩,Nat.zero_le _,nofun⟩ (fun j σ G2 p=>SqL.of (p.2.1 _ _ hEG)) ?_ ?_
   ·rintro j y σ G2 C hy ⟨⟨v1,v2,rfl⟩,s2,ss,hM2,sl,sm⟩ nx;rw [List.getElem?_map] at hy;obtain ⟨a,ha,e⟩:=Option.map_eq_some_iff.mp hy;cases e;have jl:=(List.getElem?_eq_some_iff.mp ha).1;obtain ⟨p,hp⟩:∃p,ts[j]? = some p:=⟨_,List.getElem?_eq_getElem (by omega)⟩;have pm:=List.mem_of_getElem? hp;have hat:=s2 _ _ (sG _ _ (tE j a p ha hp));have szp:=sz p pm;refine ⟨a,_,rfl,SqT.of hat,rfl,_,_,rfl,_,_,rfl,rfl,?_⟩;refine ⟨_,rfl,_,rfl,p.1,rfl,s100 (by omega),_,rfl,rfl,_,rfl,bE (fun e=>?_) (fun e=>?_)⟩
    ·have e:eR p.1 none (some (1:Int))=sg1 c:=by
      have e:=of_decide_eq_true (p:=V.str (eR p.1 none (some (1:Int)))=V.str (sg1 c)) e;injection e
     have ct:=vJ e;refine ⟨_,rfl,_,rfl,p.1,rfl,s100 (by omega),_,rfl,s100 (show 2≤100 by decide),?_⟩
     (intro b1 gb1; generalize hEq:upd _ b1 _=G3; refine aZ hEq gb1 ?_; clear hEq; intro S3 e3 o3)
     have hM3:=hM2.same S3;obtain ⟨as3,h1',h2',h3'⟩:=id hM3;refine ⟨_,h1',?_,nx _ _ ⟨⟨_,_,rfl⟩,fun u o h=>by rw [am (ak h hM)]; exact S3 _ _ (s2 _ _ h),ss ++ [(eR p.1 (some (1:Int)) none,p.2)],hM3.snoc h1' e3,by rw [List.length_append]; exact Nat.succ_le_succ sl,fun p' hp'=>?_⟩⟩
     ·rw [List.length_map,h2'];exact Nat.lt_of_le_of_lt (show ss.length≤100 by omega) (by decide)
     ·rcases List.mem_append.mp hp' with hp' | hp'
      ·exact sm p' hp'
      ·rw [List.mem_singleton.mp hp'];dsimp only;omega
    ·exact nx _ _ ⟨⟨_,_,rfl⟩,s2,ss,hM2,Nat.le_succ_of_le sl,sm⟩
   ·rintro σ G2 ⟨⟨v1,v2,rfl⟩,s2,ss,hM2,sl,sm⟩;rw [List.length_map] at sl;obtain ⟨as2,hM2',l2,t2⟩:=id hM2;have dG2:∀b,G2 b=none→O b=none:=fun b h=>dG b (s2.free h);have hFG2:=s2 _ _ hFG;refine ⟨_,rfl,M,rfl,⟨_,SqL.of hM2'⟩,fun R hR=>?_⟩;have sl100:ss.length≤100:=by omega
    refine de (xs:=as2.map V.ref) (fun j σ G3=>(∃v1 v2,σ=[v1,v2])∧Same G2 G3∧∃rs:List Str,G3 R=some (.lst (txs rs))∧rs.length≤j∧(rs≠[]→ss≠[])) ⟨⟨_,_,rfl⟩,aF hR,[],ai,Nat.le_refl _,fun h=>absurd rfl h⟩ (fun j σ G3 p=>SqL.of (p.2.1 _ _ hM2')) ?_ ?_
    ·rintro j y σ G3 C hy ⟨⟨v1,v2,rfl⟩,s3,rs,hR3,rl,rn⟩ nx;rw [List.getElem?_map] at hy;obtain ⟨a,ha,e⟩:=Option.map_eq_some_iff.mp hy;cases e;have jl:=(List.getElem?_eq_some_iff.mp ha).1;obtain ⟨p,hp⟩:∃p,ss[j]? = some p:=⟨_,List.getElem?_eq_getElem (by omega)⟩;have hat:=s3 _ _ (t2 j a p ha hp);refine ⟨a,_,rfl,SqT.of hat,rfl,_,_,rfl,_,_,rfl,rfl,?_⟩;refine ⟨_,rfl,rfl,_,rfl,bE (fun e=>?_) (fun e=>?_)⟩
     ·refine ⟨_,rfl,_,hR3,?_,nx _ _ ⟨⟨_,_,rfl⟩,fun u o h=>by rw [am (ak h hR)]; exact s3 _ _ h,rs ++ [p.1],?_,by rw [List.length_append]; exact Nat.succ_le_succ rl,fun _ z=>by rw [z] at hp; cases hp⟩⟩
      ·rw [aX];exact Nat.lt_of_le_of_lt (show rs.length≤100 by omega) (by decide)
      ·rw [ai];unfold txs;rw [List.map_append]; rfl
     ·exact nx _ _ ⟨⟨_,_,rfl⟩,s3,rs,hR3,Nat.le_succ_of_le rl,rn⟩
    rintro σ G3 ⟨⟨v1,v2,rfl⟩,s3,rs,hR3,rl,rn⟩;refine ⟨Nat.zero_le _,fun e0 he0=>?_⟩;have s4:=aF (o:=.lst []) he0;have e4:(upd G3 e0 (.lst [])) e0=some (.lst []):=ai;generalize upd G3 e0 (.lst [])=G4 at s4 e4 ⊢;have s24:Same G2 G4:=s3.trans s4;have hR4:=s4 _ _ hR3;have hF4:=s24 _ _ hFG2;have d4:∀b,G4 b=none→O b=none:=fun b h=>dG2 b (s24.free h);have asl:as'.length≤6:=by have:=nb.is.len; omega
    have put:∀{G5:Hp} {tt:Addr} {u:V} {t:TT},Same G4 G5→G5 tt=some (.tup [.str (sg1 c),u])→NT O G5 t u→GT cs 6 k t→NyT t→∃(v3 v4:Option V) (as2:List Addr) (bs2:Bs),[some (.ref N),some (.ref En),some (.ref Fo),some (.str (sg1 c)),some (.ref M)]=[some (.ref N),some (.ref En),some (.ref Fo),v3,v4]∧Same H (upd G5 Fo (.lst ((as'.map V.ref) ++ [V.ref tt])))∧(∀b,(upd G5 Fo (.lst ((as'.map V.ref) ++ [V.ref tt]))) b=none→O b=none)∧(upd G5 Fo (.lst ((as'.map V.ref) ++ [V.ref tt]))) Fo=some (.lst (as2.map V.ref))∧NB O (upd G5 Fo (.lst ((as'.map V.ref) ++ [V.ref tt]))) bs2 as2∧bs2.len≤i + 1∧GB cs 6 k bs2∧NyB bs2:=fun {G5 tt u t} s5 htt nt gt nt'=>by
     have hF5:=s5 _ _ hF4;refine ⟨_,_,as' ++ [tt],bs.snoc c t,rfl,fun b o h=>?_,fun b h=>?_,by rw [ai,List.map_append]; rfl,?_,by rw [Bs.snoc_len]; omega,GB.snoc cm gt gb,NyB.snoc nt' ny⟩
     ·rw [am (ak h gF)];exact s5 _ _ (s24 _ _ (s2 _ _ (sG _ _ h)))
     ·by_cases e:b=Fo
      ·rw [e,ai] at h; cases h
      ·rw [am e] at h;exact d4 b (s5.free h)
     ·exact NB.keep (fun _ h=>h) (Kt.set hF5 oF) (NB.snoc htt nt (NB.keep (fun _ h=>h) (Kt.same ((s2.trans s24).trans s5)) nb))
    cases rs with
    | cons r rs=>
     refine ⟨0,false,by decide,.lens (SqL.of hR4) (SqL.of e4) (by simp [txs]),_,rfl,bc ?_⟩;have sne:=rn nofun;obtain ⟨p,hp⟩:∃p,ss[0]? = some p:=⟨_,List.getElem?_eq_getElem (List.length_pos_iff.mpr sne)⟩;have l0:=List.length_pos_iff.mpr sne;obtain ⟨a0,ha0⟩:∃a,as2[0]? = some a:=⟨_,List.getElem?_eq_getElem (by omega)⟩;have h0:=s24 _ _ (t2 0 a0 p ha0 hp);have hat:atI (as2.map V.ref) 0=some (.ref a0):=cY (j:=0) (by rw [List.getElem?_map,ha0]; rfl);refine ⟨_,rfl,.inl ⟨rfl,_,SqL.of hF4⟩,_,rfl,_,rfl,M,_,_,_,rfl,rfl,SqL.of (s24 _ _ hM2'),hat,a0,_,_,_,rfl,rfl,SqT.of h0,rfl,s100 (show 2≤100 by decide),?_⟩
     (intro tt gtt; generalize hEq:upd _ tt _=G5; refine aZ hEq gtt ?_; clear hEq; intro S5 e5 o5)
     refine ⟨Fo,_,_,rfl,rfl,S5 _ _ hF4,?_,put (t:=.num p.2) S5 e5 rfl trivial trivial⟩;rw [List.length_map];exact Nat.lt_of_le_of_lt asl (by decide)
    | nil=>
     refine ⟨0,true,by decide,cU (SqL.of hR4) (SqL.of e4) nofun,_,rfl,aU ?_⟩;have hM4:=s24 _ _ hM2';refine ⟨_,rfl,Nat.zero_le _,fun e5 he5=>?_⟩;have s5:=aF (o:=.lst []) he5;have e6:(upd G4 e5 (.lst [])) e5=some (.lst []):=ai;generalize upd G4 e5 (.lst [])=G5 at s5 e6 ⊢
     by_cases sne:ss=[]
     ·have:as2=[]:=List.length_eq_zero_iff.mp (by rw [l2,sne]; rfl);subst this;refine ⟨0,true,by decide,cU (SqL.of (s5 _ _ hM4)) (SqL.of e6) nofun,_,rfl,aU ?_⟩;exact ⟨_,_,as',bs,rfl,fun b o h=>s5 _ _ (s24 _ _ (s2 _ _ (sG _ _ h))),fun b h=>d4 b (s5.free h),s5 _ _ hF4,NB.keep (fun _ h=>h) (Kt.same ((s2.trans s24).trans s5)) nb,by omega,gb,ny⟩
     ·refine ⟨0,false,by decide,.lens (SqL.of (s5 _ _ hM4)) (SqL.of e6) (by rw [List.length_map,l2]; exact fun z=>sne (List.length_eq_zero_iff.mp z)),_,rfl,bc ?_⟩;refine ⟨_,rfl,.inl ⟨rfl,_,SqL.of (s5 _ _ hF4)⟩,_,rfl,_,rfl,_,rfl,N,M,cs,ss,rfl,s5 _ _ (s24 _ _ (s2 _ _ (sG _ _ hN))),c6,hM2.same (s24.trans s5),sne,sl100,sm,by omega,fun L2 bs2 G6 s6 nt gt ny2=>⟨s100 (show 2≤100 by decide),?_⟩⟩
      (intro tt gtt; generalize hEq:upd _ tt _=G7; refine aZ hEq gtt ?_; clear hEq; intro S7 e7 o7)
      refine ⟨Fo,_,_,rfl,rfl,S7 _ _ (s6 _ _ (s5 _ _ hF4)),?_,put (t:=.br bs2) ((s5.trans s6).trans S7) e7 (NT.keep (fun b h=>d4 b (s5.free h)) (Kt.same S7) nt) gt ny2⟩;rw [List.length_map];exact Nat.lt_of_le_of_lt asl (by decide)
  ·rintro σ G ⟨v3,v4,as',bs,rfl,sG,dG,hFG,nb,bl,gb,ny⟩;have tl:(txs (sgs cs)).length=cs.length:=by rw [aX]; unfold sgs; rw [List.length_map]
   rw [tl] at bl;refine ⟨_,rfl,q Fo bs G sG ⟨Fo,as',rfl,gF,hFG,NB.keep (fun b h=>S0.free h) (Kt.same (Same.refl _)) nb⟩ ⟨Nat.succ_pos _,by omega,gb⟩ ny⟩
theorem tF {f:Addr} {fd:FuncData} (F:FunG K "_law_grown" "_law_grown" eT .none f fd):FnOk P w K mg base (CXE P w) 1 f fd ["_law_names","_law_ends"] (iZ 0):=by
 refine F.zokN scGr (fun vs H Q E h=>?_) (fun cdv A outer s H vs Q E hr h=>?_)
 ·obtain ⟨N,En,cs,ts,rfl,_⟩:=h;rfl
 ·obtain ⟨N,En,cs,ts,rfl,hN,c6,hE,ne,t100,sz,_⟩:=h;obtain ⟨p,hp⟩:=List.exists_mem_of_ne_nil _ ne;exact absurd (sz p hp) (Nat.not_lt_zero _)
theorem mm {f:Addr} {fd:FuncData} (F:FunG K "_law_grown" "_law_grown" eT .none f fd) (B:Bl mg) (mG:mg "_law_grown" = some (.ref f)) (kG:PySem.W.keepIn K (.ref f)=true) (bG:Binds K fd ["_law_names","_law_ends"] []):∀k,FnOk P w K mg base (CXE P w) (k + 1) f fd ["_law_names","_law_ends"] (iZ k)
 | 0=>tF F
 | k + 1=>vK F B (mm F B mG kG bG k) mG kG bG
def vL:Sp:=fun vs H Q _=>∃(t Bk:Addr) (cs:List Nat) (fs ps:List Str) (lg:Int) (bk:List Str),vs=[.ref t,.ref Bk]∧Tg H t cs fs ps lg∧H Bk=some (.lst (txs bk))∧Book cs bk∧∀L bs H',Same H H'→IsT H' (.br bs) (.ref L)→GT cs 6 9 (.br bs)→NyB bs→Q (.ref L) H'
theorem BB:FnScope ["_law_tongue_here","_law_book"] ["_law_tongue_here","_law_book"] (af js):=⟨rfl,rfl,rfl,by decide +kernel,rfl,by decide +kernel,by decide +kernel⟩
theorem xE {f fG:Addr} {fd fdG:FuncData} (F:FunG K "_law_tree" "_law_tree" js .none f fd) (B:Bl mg)
  (GG:FnOk P w K mg base (CXE P w) 10 fG fdG ["_law_names","_law_ends"] (iZ 9)) (mG:mg "_law_grown" = some (.ref fG)) (kG:PySem.W.keepIn K (.ref fG)=true) (bG:Binds K fdG ["_law_names","_law_ends"] []):FnOk P w K mg base (CXE P w) 11 f fd ["_law_tongue_here","_law_book"] vL:=by
 refine F.zokN BB (fun vs H Q E h=>?_) (fun cdv A outer s H vs Q E hr h=>?_)
 ·obtain ⟨t,Bk,cs,fs,ps,lg,bk,rfl,_⟩:=h;rfl
 ·obtain ⟨t,Bk,cs,fs,ps,lg,bk,rfl,tg,hB,book,q⟩:=h;refine ⟨_,(ah (ay (aj GG hr (by rfl) mG kG bG .nil aw (gf (cx ["_law_tongue_here","_law_book"] ["_law_one"] [] (af js) rfl rfl rfl ⟨by decide +kernel,by decide +kernel,by decide +kernel,by decide +kernel,by decide +kernel⟩ (aQ (aJ bj (zpv 0) ag (fun _ _=>rfl))) (fun s H fp=>(aq (i:=0) (show List.Nodup [("_law_one" : Str)] by decide +kernel) rfl (Or.inl rfl))) (fun s H fp=>bM) (fun s H fp=>(aJ (dL K rfl) (zpv 0) ag (fun _ _=>rfl)))) (gf (cx ["_law_tongue_here","_law_book"] ["_law_number","_law_word"] [] (af js) rfl rfl rfl ⟨by decide +kernel,by decide +kernel,by decide +kernel,by decide +kernel,by decide +kernel⟩ (uP (by rfl) B.enum (ac (zpv 1) aa)) (fun s H fp=>(eC K 2 rfl rfl (aE (aq (i:=0) (show List.Nodup [("_law_number" : Str),"_law_word"] by decide +kernel) rfl (Or.inl rfl)) (aE (aq (i:=1) (show List.Nodup [("_law_number" : Str),"_law_word"] by decide +kernel) rfl (Or.inl rfl)) bw)))) (fun s H fp=>bM) (fun s H fp=>(aY (ac (zpv 1) (ac (zpv 0) aa))))) aa))))),?_⟩;have s100:∀{n:Nat},n≤100→n≤sizeLine:=fun h=>Nat.le_trans h (by decide);obtain ⟨S,Fr,Pp,xs,h1,h2,rows,h4,h5⟩:=tg.ex;have c6:=tg.c6;have l20:=book.le;refine ⟨_,rfl,t,_,_,_,rfl,rfl,SqT.of h1,rfl,S,rfl,⟨_,SqL.of h2⟩,fun N hN=>?_⟩;refine de (xs:=xs) (fun i σ G=>(∃v,σ=[v])∧Same H G∧G N=some (.lst (txs (sgs (cs.take i))))) ⟨⟨_,rfl⟩,aF hN,ai⟩ (fun i σ G p=>SqL.of (p.2.1 _ _ h2)) ?_ ?_
  ·rintro i x σ G C hx ⟨⟨v,rfl⟩,sG,hNG⟩ nx;obtain ⟨c,hc,row⟩:=rows.at hx;have il:=(List.getElem?_eq_some_iff.mp hc).1;obtain ⟨b,p,la,rfl,hb,_⟩:=row.ex;have tc:cs.take (i + 1)=cs.take i ++ [c]:=by rw [List.take_add_one,hc]; rfl
   dsimp only [cF];refine ⟨_,rfl,b,_,_,_,rfl,rfl,SqT.of (sG _ _ hb),rfl,_,hNG,?_,nx _ _ ⟨⟨_,rfl⟩,fun u o h=>by rw [am (ak h hN)]; exact sG _ _ h,?_⟩⟩
   ·rw [aX];unfold sgs;rw [List.length_map,List.length_take];exact Nat.lt_of_le_of_lt (show min i cs.length≤6 by omega) (by decide)
   ·rw [ai,tc];unfold txs sgs;rw [List.map_append,List.map_append]; rfl
  rintro σ H1 ⟨⟨v,rfl⟩,s1,hN1⟩;rw [rows.len,List.take_length] at hN1;have hB1:=s1 _ _ hB;refine ⟨_,rfl,Bk,rfl,⟨_,SqL.of hB1⟩,?_⟩
  (intro M gM; generalize hEq:upd _ M _=H2; refine aZ hEq gM ?_; clear hEq; intro S2 eM oM)
  refine wR (K:=K) (S:=Bk) (xs:=txs bk) (fun i σ G'=>(∃v v',σ=[v,v'])∧Same H1 G'∧∃ts:List (Str × Int),PrL G' M ts∧ts.length=i∧∀p∈ts,p.1.length < 9) ⟨⟨_,_,rfl⟩,S2,[],⟨[],eM,rfl,fun j a p e=>by simp at e⟩,rfl,nofun⟩ (fun i σ G' p=>SqL.of (p.2.1 _ _ hB1)) ?_ ?_
  ·rintro i x t' σ G' C hi ⟨⟨v,v',rfl⟩,sG,ts,hM,tl,sz⟩ gt nx;obtain ⟨z,hz,rfl⟩:=gJ hi;have il:=(List.getElem?_eq_some_iff.mp hz).1;have S2':=aF (o:=.tup [.int i,.str z]) gt;have et:upd G' t' (.tup [.int i,.str z]) t'=some (.tup [.int i,.str z]):=ai;generalize upd G' t' (.tup [.int i,.str z])=G6 at S2' et;refine ⟨t',_,rfl,SqT.of et,rfl,_,_,rfl,_,_,rfl,rfl,?_⟩;dsimp only;rw [if_pos rfl];refine ⟨_,rfl,_,rfl,s100 (show 2≤100 by decide),?_⟩
   (intro b1 gb1; generalize hEq:upd _ b1 _=G7; refine aZ hEq gb1 ?_; clear hEq; intro S7 e7 o7)
   have hM7:=(hM.same S2').same S7;obtain ⟨as',q1,q2,q3⟩:=id hM7;refine ⟨_,q1,?_,nx _ _ ⟨⟨_,_,rfl⟩,fun u o h=>by rw [am (ak h gM)]; exact S7 _ _ (S2' _ _ (sG _ _ h)),ts ++ [(z,(i:Int))],hM7.snoc q1 e7,by rw [List.length_append,tl]; rfl,fun p hp=>?_⟩⟩
   ·rw [List.length_map,q2,tl];exact Nat.lt_of_lt_of_le (show i < 20 by omega) (by decide)
   ·rcases List.mem_append.mp hp with hp | hp
    ·exact sz p hp
    ·rw [List.mem_singleton.mp hp];have:=(book.sz z (List.mem_of_getElem? hz)).2.1;rw [cJ] at this;dsimp only;omega
  rintro σ G6 ⟨⟨v,v',rfl⟩,S46,ts,hM6,tl,sz⟩;rw [aX] at tl;refine ⟨N,M,cs,ts,rfl,S46 _ _ hN1,c6,hM6,fun z=>book.ne (List.length_eq_zero_iff.mp (by rw [← tl,z]; rfl)),by omega,sz,by decide,fun L bs H' s' nt gt ny=>?_⟩;exact q L bs H' ((s1.trans S46).trans s') nt.is gt ny
def gQ (k:Nat):Sp:=fun vs H Q _=>∃(L:Addr) (cs:List Nat) (d w:Nat) (many by_:Int) (bs:Bs),vs=[.ref L,.int many,.int by_]∧0 < many∧IsT H (.br bs) (.ref L)∧GT cs w d (.br bs)∧NyB bs∧d < k∧w≤50∧∀L' bs' H',Same H H'→NT H H' (.br bs') (.ref L')→GT cs w d (.br bs')→Q (.ref L') H'
theorem scTu:FnScope ["_law_rows","_law_many","_law_by","_law_found","_law_sign","_law_node"] ["_law_rows","_law_many","_law_by"] (af eK):=⟨rfl,rfl,rfl,by decide +kernel,rfl,by decide +kernel,by decide +kernel⟩
theorem tG {k:Nat} {f:Addr} {fd:FuncData} (F:FunG K "_law_turned" "_law_turned" eK .none f fd) (B:Bl mg)
  (GU:FnOk P w K mg base (CXE P w) (k + 1) f fd ["_law_rows","_law_many","_law_by"] (gQ k)) (mU:mg "_law_turned" = some (.ref f)) (kU:PySem.W.keepIn K (.ref f)=true) (bU:Binds K fd ["_law_rows","_law_many","_law_by"] []):FnOk P w K mg base (CXE P w) (k + 2) f fd ["_law_rows","_law_many","_law_by"] (gQ (k + 1)):=by
 refine F.zokN scTu (fun vs H Q E h=>?_) (fun cdv A outer s H vs Q E hr h=>?_)
 ·obtain ⟨L,cs,d,w,many,by_,bs,rfl,_⟩:=h;rfl
 ·obtain ⟨L,cs,d,wd,many,by_,bs,rfl,m0,it,gt,ny,dk,w50,q⟩:=h;refine ⟨_,(ae (ax (i:=3) scTu.nd rfl (Or.inl rfl) (aO aa))
   (ae (cE PassesOwn.never rfl (aQ (zpv 0)) (df rfl (aE (aq (i:=4) scTu.nd rfl (Or.inl rfl)) (aE (aq (i:=5) scTu.nd rfl (Or.inl rfl)) bw)))
     (ah (aH (aI (au aV (by rfl) B.isi aW (ac (zpv 5) (ac (ba (by rfl) B.list boot_list (v:=.ty "list") rfl) aa)))) (ah (bK (dg PySem.F.plainAttrs_list PySem.F.slot_list_append PySem.F.type_list_append cP (zpv 3) (cu (aY (ac (zpv 4) (bt (aj GU hr (by rfl) mU kU bU .nil aw (ac (zpv 5) (ac (zpv 1) (ac (zpv 2) aa)))) aa))) aa)))) (ah (bK (dg PySem.F.plainAttrs_list PySem.F.slot_list_append PySem.F.type_list_append cP (zpv 3) (cu (aY (ac (zpv 4) (cT (aS eQ (aS cB (zpv 5) (zpv 2)) (zpv 1)) aa))) aa)))))))
   (ah (ay (zpv 3))))),?_⟩
  have s100:∀{n:Nat},n≤100→n≤sizeLine:=fun h=>Nat.le_trans h (by decide);obtain ⟨L0,as,e0,hL,ib⟩:=it;cases e0;obtain ⟨g1,g2,g3⟩:=gt;refine ⟨Nat.zero_le _,?_⟩
  (intro Fo gF; generalize hEq:upd _ Fo _=O; refine aZ hEq gF ?_; clear hEq; intro S0 eF o0)
  have oF:O Fo≠none:=by rw [eF]; nofun
  refine ⟨_,rfl,L,rfl,⟨_,SqL.of (S0 _ _ hL)⟩,dA (K:=K) (a:=L) (xs:=as.map V.ref) (fun i σ G=>∃(v4 v5:Option V) (as':List Addr) (rest bs':Bs),σ=[some (.ref L),some (.int many),some (.int by_),some (.ref Fo),v4,v5]∧Same H G∧(∀b,G b=none→O b=none)∧G Fo=some (.lst (as'.map V.ref))∧IsB H rest (as.drop i)∧GB cs wd (d - 1) rest∧NyB rest∧NB O G bs' as'∧bs'.len≤i∧GB cs wd (d - 1) bs')
   ⟨_,_,[],bs,.nil,rfl,S0,fun _ h=>h,eF,ib,g3,ny,rfl,Nat.zero_le _,trivial⟩ (fun i σ G _ p=>by obtain ⟨_,_,_,_,_,_,s,_⟩:=p; exact SqL.of (s _ _ hL)) ?_ ?_⟩
  ·rintro i y σ G hy ⟨v4,v5,as',rest,bs',rfl,sG,dG,hFG,ibr,gbr,nyr,nb,bl,gb⟩;rw [List.getElem?_map] at hy;obtain ⟨a,ha,e⟩:=Option.map_eq_some_iff.mp hy;cases e;have il:=(List.getElem?_eq_some_iff.mp ha).1;have ilb:i < 50:=by have:=ib.len; omega
   have dr:as.drop i=a :: as.drop (i + 1):=by rw [List.drop_eq_getElem_cons il]; congr 1; rw [List.getElem?_eq_getElem il] at ha; cases ha; rfl
   rw [dr] at ibr;cases rest with
   | nil=>cases (show a :: as.drop (i + 1)=[] from ibr)
   | cons c t1 bs1=>
   obtain ⟨a',v1,rs,ee,ha0,it1,ib1⟩:=ibr;injection ee with ea er;subst ea;subst er;obtain ⟨hc,gt1,gb1⟩:=gbr;obtain ⟨ny1,ny2⟩:=nyr;have haG:=sG _ _ ha0;have asl:as'.length < 50:=by have:=nb.is.len; omega
   have put:∀{G5:Hp} {tt:Addr} {u:V} {t:TT},Same G G5→G5 tt=some (.tup [.str (sg1 c),u])→NT O G5 t u→GT cs wd (d - 1) t→∃(v4 v5:Option V) (as2:List Addr) (rest bs2:Bs),[some (.ref L),some (.int many),some (.int by_),some (.ref Fo),some (.str (sg1 c)),some v1]=[some (.ref L),some (.int many),some (.int by_),some (.ref Fo),v4,v5]∧Same H (upd G5 Fo (.lst ((as'.map V.ref) ++ [V.ref tt])))∧(∀b,(upd G5 Fo (.lst ((as'.map V.ref) ++ [V.ref tt]))) b=none→O b=none)∧(upd G5 Fo (.lst ((as'.map V.ref) ++ [V.ref tt]))) Fo=some (.lst (as2.map V.ref))∧IsB H rest (as.drop (i + 1))∧GB cs wd (d - 1) rest∧NyB rest∧NB O (upd G5 Fo (.lst ((as'.map V.ref) ++ [V.ref tt]))) bs2 as2∧bs2.len≤i + 1∧GB cs wd (d - 1) bs2:=fun {G5 tt u t} s5 htt nt gt=>by
    have hF5:=s5 _ _ hFG;refine ⟨_,_,as' ++ [tt],bs1,bs'.snoc c t,rfl,fun b o h=>?_,fun b h=>?_,by rw [ai,List.map_append]; rfl,ib1,gb1,ny2,?_,by rw [Bs.snoc_len]; omega,GB.snoc hc gt gb⟩
    ·rw [am (ak h gF)];exact s5 _ _ (sG _ _ h)
    ·by_cases e:b=Fo
     ·rw [e,ai] at h; cases h
     ·rw [am e] at h;exact dG b (s5.free h)
    ·exact NB.keep (fun _ h=>h) (Kt.set hF5 oF) (NB.snoc htt nt (NB.keep (fun _ h=>h) (Kt.same s5) nb))
   dsimp only [cF];refine ⟨a,_,rfl,SqT.of haG,rfl,_,_,rfl,_,_,rfl,rfl,?_⟩;cases t1 with
   | yes=>exact ny1.elim
   | num n=>
    have ev:v1 = .int n:=it1;subst ev;refine ⟨_,rfl,_,_,_,false,rfl,.of (.int n),.inl ⟨_,rfl,xB⟩,_,rfl,aU ?_⟩;refine ⟨_,rfl,.inl ⟨rfl,_,SqL.of hFG⟩,_,rfl,_,rfl,_,rfl,_,_,rfl,rfl,?_⟩;refine ⟨_,rfl,_,_,rfl,rfl,m0,s100 (show 2≤100 by decide),?_⟩
    (intro tt gtt; generalize hEq:upd _ tt _=G7; refine aZ hEq gtt ?_; clear hEq; intro S7 e7 o7)
    refine ⟨Fo,_,_,rfl,rfl,S7 _ _ hFG,?_,put (t:=.num _) S7 e7 rfl trivial⟩;rw [List.length_map];exact Nat.lt_of_lt_of_le asl (by decide)
   | br bs2=>
    obtain ⟨L2,as2,ev,hL2,ib2⟩:=id it1;subst ev;refine ⟨_,rfl,_,_,_,true,rfl,.of (.lst (sG _ _ hL2)),.inl ⟨_,rfl,kl1⟩,_,rfl,bc ?_⟩;refine ⟨_,rfl,.inl ⟨rfl,_,SqL.of hFG⟩,_,rfl,_,rfl,_,rfl,_,rfl,L2,cs,d - 1,wd,many,by_,bs2,rfl,m0,IsT.kp (Kp.same sG) it1,gt1,ny1,by omega,w50,fun L3 bs3 G6 s6 nt gt=>⟨s100 (show 2≤100 by decide),?_⟩⟩
    (intro tt gtt; generalize hEq:upd _ tt _=G7; refine aZ hEq gtt ?_; clear hEq; intro S7 e7 o7)
    refine ⟨Fo,_,_,rfl,rfl,S7 _ _ (s6 _ _ hFG),?_,put (t:=.br bs3) (s6.trans S7) e7 (NT.keep dG (Kt.same S7) nt) gt⟩;rw [List.length_map];exact Nat.lt_of_lt_of_le asl (by decide)
  ·rintro σ G ⟨v4,v5,as',rest,bs',rfl,sG,dG,hFG,ibr,gbr,nyr,nb,bl,gb⟩;rw [List.length_map,ib.len] at bl;exact ⟨_,rfl,q Fo bs' G sG ⟨Fo,as',rfl,gF,hFG,NB.keep (fun b h=>S0.free h) (Kt.same (Same.refl _)) nb⟩ ⟨g1,by omega,gb⟩⟩
theorem qr {f:Addr} {fd:FuncData} (F:FunG K "_law_turned" "_law_turned" eK .none f fd):FnOk P w K mg base (CXE P w) 1 f fd ["_law_rows","_law_many","_law_by"] (gQ 0):=by
 refine F.zokN scTu (fun vs H Q E h=>?_) (fun cdv A outer s H vs Q E hr h=>?_)
 ·obtain ⟨L,cs,d,w,many,by_,bs,rfl,_⟩:=h;rfl
 ·obtain ⟨L,cs,d,wd,many,by_,bs,rfl,m0,it,gt,ny,dk,_⟩:=h;exact absurd dk (Nat.not_lt_zero _)
theorem kh {f:Addr} {fd:FuncData} (F:FunG K "_law_turned" "_law_turned" eK .none f fd) (B:Bl mg) (mU:mg "_law_turned" = some (.ref f)) (kU:PySem.W.keepIn K (.ref f)=true) (bU:Binds K fd ["_law_rows","_law_many","_law_by"] []):∀k,FnOk P w K mg base (CXE P w) (k + 1) f fd ["_law_rows","_law_many","_law_by"] (gQ k)
 | 0=>qr F
 | k + 1=>tG F B (kh F B mU kU bU k) mU kU bU
end
def GR (H:Hp) (cs:List Nat) (w d:Nat) (v:V):Prop:=∃(a:Addr) (c:Nat) (t:TT) (u:V),v = .ref a∧H a=some (.tup [.str (sg1 c),u])∧IsT H t u∧c∈cs∧GT cs w d t
theorem GR.up {H:Hp} {cs:List Nat} {w w' d d':Nat} {v:V} (h:GR H cs w d v) (hw:w≤w') (hd:d≤d'):GR H cs w' d' v:=by
 obtain ⟨a,c,t,u,e,h1,h2,h3,h4⟩:=h;exact ⟨a,c,t,u,e,h1,h2,h3,GT.up hw hd h4⟩
mutual
theorem IsT.src {H H':Hp} {p:Addr} (s:Src H p) (k:Ext p H H'):∀{t:TT} {v:V},IsT H t v→IsT H' t v
 | .num n,v,h=>h
 | .yes,v,h=>h
 | .br bs,v,⟨L,as,e,h,b⟩=>⟨L,as,e,k _ _ (fun z=>by
   obtain ⟨n,m,e2,_⟩:=s.ex;rw [z,e2] at h;cases as with
   | nil=>cases h
   | cons a as=>
    injection h with h;injection h with h;injection h with h1 h2;cases h1) h,IsB.src s k b⟩
theorem IsB.src {H H':Hp} {p:Addr} (s:Src H p) (k:Ext p H H'):∀{bs:Bs} {as:List Addr},IsB H bs as→IsB H' bs as
 | .nil,as,h=>h
 | .cons c t bs,as,⟨a,v,r,e,h,x,b⟩=>⟨a,v,r,e,k _ _ (fun z=>by
   obtain ⟨n,m,e2,_⟩:=s.ex;rw [z,e2] at h; cases h) h,IsT.src s k x,IsB.src s k b⟩
end
theorem GR.src {H H':Hp} {cs:List Nat} {w d:Nat} {v:V} {p:Addr} (s:Src H p) (k:Ext p H H') (h:GR H cs w d v):GR H' cs w d v:=by
 obtain ⟨a,c,t,u,e,h1,h2,h3⟩:=h;exact ⟨a,c,t,u,e,k _ _ (fun z=>by
   obtain ⟨n,m,e2,_⟩:=s.ex;rw [z,e2] at h1; cases h1) h1,IsT.src s k h2,h3⟩
theorem GR.same {H H':Hp} {cs:List Nat} {w d:Nat} {v:V} (s:Same H H') (h:GR H cs w d v):GR H' cs w d v:=by
 obtain ⟨a,c,t,u,e,h1,h2,h3⟩:=h;exact ⟨a,c,t,u,e,s _ _ h1,IsT.kp (Kp.same s) h2,h3⟩
theorem mkB {H:Hp} {cs:List Nat} {w d:Nat}:∀{xs:List V},(∀y∈xs,GR H cs w d y)→∃(as:List Addr) (bs:Bs),xs=as.map V.ref∧IsB H bs as∧GB cs w d bs
 | [],_=>⟨[],.nil,rfl,rfl,trivial⟩
 | x :: xs,h=>by
  obtain ⟨as,bs,e,i,g⟩:=mkB fun y hy=>h y (List.mem_cons_of_mem _ hy);obtain ⟨a,c,t,u,e1,h1,h2,h3,h4⟩:=h x List.mem_cons_self;exact ⟨a :: as,.cons c t bs,by rw [e,e1]; rfl,⟨a,u,as,rfl,h1,h2,i⟩,h3,h4,g⟩
theorem mkT {H:Hp} {cs:List Nat} {w d:Nat} {L:Addr} {xs:List V} (hL:H L=some (.lst xs)) (h:∀y∈xs,GR H cs w d y) (l:xs.length≤w):∃bs,IsT H (.br bs) (.ref L)∧GT cs w (d + 1) (.br bs):=by
 obtain ⟨as,bs,e,i,g⟩:=mkB h;subst e;exact ⟨bs,⟨L,as,rfl,hL,i⟩,Nat.succ_pos _,by rw [← i.len]; rwa [List.length_map] at l,g⟩
theorem unB {H:Hp} {cs:List Nat} {w d:Nat}:∀{bs:Bs} {as:List Addr},IsB H bs as→GB cs w d bs→∀y∈as.map V.ref,GR H cs w d y
 | .nil,as,h,_,y,hy=>by rw [show as=[] from h] at hy; cases hy
 | .cons c t bs,as,⟨a,u,r,e,h1,h2,h3⟩,⟨g1,g2,g3⟩,y,hy=>by
  subst e;rcases List.mem_cons.mp hy with rfl | hy
  ·exact ⟨a,c,t,u,rfl,h1,h2,g1,g2⟩
  ·exact unB h3 g3 y hy
theorem unT {H:Hp} {cs:List Nat} {w d:Nat} {L:Addr} {bs:Bs} (h:IsT H (.br bs) (.ref L)) (g:GT cs w d (.br bs)):∃xs,H L=some (.lst xs)∧xs.length≤w∧xs.length=bs.len∧0 < d∧∀y∈xs,GR H cs w (d - 1) y:=by
 obtain ⟨L0,as,e,hL,ib⟩:=h;cases e;obtain ⟨g1,g2,g3⟩:=g;exact ⟨_,hL,by rw [List.length_map,ib.len]; exact g2,by rw [List.length_map,ib.len],g1,unB ib g3⟩
theorem ki {xs:List V} {n:Nat} (h:n≤xs.length):ju xs none (some (n:Int))=xs.take n:=by
 unfold ju;have e:HT.sIx xs.length xs.length (some (n:Int))=n:=by rw [HT.sIx_nat]; omega
 rw [e]; rfl
theorem rB {cs:List Nat} {d:Int} (h0:0≤d) (h1:d < cs.length):∃c,c∈cs∧atI (txs (sgs cs)) d=some (.str (sg1 c)):=by
 obtain ⟨j,rfl⟩:=Int.eq_ofNat_of_zero_le h0;have hj:j < cs.length:=by omega
 refine ⟨cs[j],List.getElem_mem hj,cY ?_⟩;unfold txs sgs;rw [List.getElem?_map,List.getElem?_map,List.getElem?_eq_getElem hj]; rfl
theorem Src.no_txs {H:Hp} {p N:Addr} {ts:List Str} (s:Src H p) (h:H N=some (.lst (txs ts))):N≠p:=fun z=>by
 obtain ⟨n,m,e2,_⟩:=s.ex;rw [z,e2] at h;cases ts with
 | nil=>cases h
 | cons a as=>
  injection h with h;injection h with h;injection h with h1 h2;cases h1
theorem Src.no_refs {H:Hp} {p N:Addr} {xs:List V} {cs:List Nat} {w d:Nat} (s:Src H p) (h:H N=some (.lst xs)) (g:∀y∈xs,GR H cs w d y):N≠p:=fun z=>by
 obtain ⟨n,m,e2,_⟩:=s.ex;rw [z,e2] at h;cases h;obtain ⟨_,_,_,_,e,_⟩:=g _ List.mem_cons_self;cases e
theorem vM {xs ms:List V} {a b:Nat} {y:V} (h:y∈xs.take a ++ ms ++ xs.drop b):y∈xs∨y∈ms:=by
 rcases List.mem_append.mp h with h | h
 ·rcases List.mem_append.mp h with h | h
  ·exact .inl (List.mem_of_mem_take h)
  ·exact .inr h
 ·exact .inl (List.mem_of_mem_drop h)
theorem vN {xs ms:List V} {a b:Nat} (ha:a≤xs.length) (hb:b≤xs.length):(xs.take a ++ ms ++ xs.drop b).length=a + ms.length + (xs.length - b):=by
 rw [List.length_append,List.length_append,List.length_take,List.length_drop]; omega
section
variable {P:Program} {w:World} {K:PySem.W.Frag} {mg:Str→Option Value} {base:Heap}
def gi:Sp:=fun vs H Q _=>∃(L p N:Addr) (cs:List Nat) (wd d at_ many:Nat) (bs:Bs),vs=[.ref L,.int at_,.ref N,.int many,.ref p]∧IsT H (.br bs) (.ref L)∧GT cs wd d (.br bs)∧wd≤50∧at_ < bs.len∧H N=some (.lst (txs (sgs cs)))∧cs≠[]∧cs.length≤6∧many≤20∧Src H p∧
 ∀L' bs' H',Ext p H H'→Src H' p→IsT H' (.br bs') (.ref L')→GT cs (wd + 1) (d + 1) (.br bs')→Q (.ref L') H'
theorem scBh:FnScope ["_law_rows","_law_at","_law_names","_law_many","_law_source_here","_law_sign","_law_node","_law_other","_law_number","_law_way","_law_place","_law_more","_law_some","_law_made"] ["_law_rows","_law_at","_law_names","_law_many","_law_source_here"] (af dR):=⟨rfl,rfl,rfl,by decide +kernel,rfl,by decide +kernel,by decide +kernel⟩
theorem pz {f fD:Addr} {fd fdD:FuncData} (F:FunG K "_law_bent_here" "_law_bent_here" dR .none f fd) (B:Bl mg)
  (GD:FnOk P w K mg base (CXE P w) 1 fD fdD ["_law_source_here","_law_many"] fQ) (mD:mg "_law_draw" = some (.ref fD)) (kD:PySem.W.keepIn K (.ref fD)=true) (bD:Binds K fdD ["_law_source_here","_law_many"] []):FnOk P w K mg base (CXE P w) 2 f fd ["_law_rows","_law_at","_law_names","_law_many","_law_source_here"] gi:=by
 refine F.zokN scBh (fun vs H Q E h=>?_) (fun cdv A outer s H vs Q E hr h=>?_)
 ·obtain ⟨L,p,N,cs,wd,d,at_,many,bs,rfl,_⟩:=h;rfl
 ·obtain ⟨L,p,N,cs,wd,d,at_,many,bs,rfl,it,gt,w50,al,hN,cne,c6,m20,sp,q⟩:=h;refine ⟨_,(ae (eL (aJ bi (zpv 0) (zpv 1) (fun _ _=>rfl)) (df rfl (aE (aq (i:=5) scBh.nd rfl (Or.inl rfl)) (aE (aq (i:=6) scBh.nd rfl (Or.inl rfl)) bw))))
   (ae (ax (i:=7) scBh.nd rfl (Or.inl rfl) (aJ bi (zpv 2) (aj GD hr (by rfl) mD kD bD .nil aw (ac (zpv 4) (bt (au aN (by rfl) B.len PySem.boot_len (ac (zpv 2) aa)) aa))) (fun _ _=>rfl)))
   (ae (ax (i:=8) scBh.nd rfl (Or.inl rfl) (aj GD hr (by rfl) mD kD bD .nil aw (ac (zpv 4) (cT (aS cB (zpv 3) ag) aa))))
   (ae (ax (i:=9) scBh.nd rfl (Or.inl rfl) (aj GD hr (by rfl) mD kD bD .nil aw (ac (zpv 4) (aM ag aa))))
   (ae (aH (aA cz (zpv 9) ag (aG _)) (ah (ay (nh (zpv 0)))) az)
   (ae (aH (aA cz (zpv 9) ag (aG _)) (ae (ax (i:=10) scBh.nd rfl (Or.inl rfl) (aj GD hr (by rfl) mD kD bD .nil aw (ac (zpv 4) (cT (aS cB (au aN (by rfl) B.len PySem.boot_len (ac (zpv 0) aa)) ag) aa))))
   (ae (ax (i:=11) scBh.nd rfl (Or.inl rfl) (aJ bi (aO (ac (zpv 8) (ac (zpv 8) (eB (aO aa) (aM bQ aa))))) (aj GD hr (by rfl) mD kD bD .nil aw (ac (zpv 4) (aM ag aa))) (fun _ _=>rfl)))
   (ah (ay (aS jc (aS jc (ce fj (zpv 0) cG (cH (zpv 10))) (aO (cu (aY (ac (zpv 7) (ac (zpv 11) aa))) aa))) (ce fj (zpv 0) (cH (zpv 10)) cG)))))) az)
   (ae (ax (i:=12) scBh.nd rfl (Or.inl rfl) (aO (eB (aO (cu (aY (ac (zpv 7) (ac (zpv 6) aa))) aa)) (eB (aO (cu (aY (ac (zpv 5) (eB (aO (cu (aY (ac (zpv 7) (ac (zpv 6) aa))) aa)) aa))) aa)) (eB (aO (cu (aY (ac (zpv 5) (ac (zpv 8) aa))) aa)) (eB (aO aa) (eB (aO (cu (aY (ac (zpv 5) (ac (zpv 6) aa))) (cu (aY (ac (zpv 7) (ac (zpv 6) aa))) aa))) aa)))))))
   (ae (ax (i:=13) scBh.nd rfl (Or.inl rfl) (aJ bi (zpv 12) (au (i9 rfl) (by rfl) B.min boot_min (ac (zpv 9) (aM ag aa))) (fun _ _=>rfl)))
   (ae (ge (aH (SPW.pt (iS (aA cz (zpv 9) ag (aG _)) (iS (aI (au aV (by rfl) B.isi aW (ac (zpv 6) (ac (ba (by rfl) B.list boot_list (v:=.ty "list") rfl) aa)))) (iR (aA (jW hr.units60) (zpv 6) (aO aa) (aG _)))))) (ah (ax (i:=13) scBh.nd rfl (Or.inl rfl) (aO (cu (aY (ac (zpv 5) (cI (aJ bj (aJ bi (zpv 6) ag (fun _ _=>rfl)) ag (fun _ _=>rfl)) aa))) aa)))) az))
   (ae (ge (aH (aA cz (zpv 9) ag (aG _)) (ah (ax (i:=13) scBh.nd rfl (Or.inl rfl) (aO (cu (aY (ac (zpv 5) (aM bQ aa))) aa)))) az))
   (ae (ge (aH (aA cz (zpv 9) ag (aG _)) (ah (ax (i:=13) scBh.nd rfl (Or.inl rfl) (aO (cu (aY (ac (zpv 5) (eB (aO aa) aa))) aa)))) az))
   (ah (ay (aS jc (aS jc (ce fj (zpv 0) cG (cH (zpv 1))) (zpv 13)) (ce fj (zpv 0) (cH (aS cB (zpv 1) ag)) cG))))))))))))))),?_⟩
  have s100:∀{n:Nat},n≤100→n≤sizeLine:=fun h=>Nat.le_trans h (by decide);obtain ⟨xs,hL,xw,xl,d0,gx⟩:=unT it gt;obtain ⟨y,hy⟩:∃y,xs[at_]? = some y:=⟨_,List.getElem?_eq_getElem (by omega)⟩;obtain ⟨a,c,t,u,rfl,ha,iu,hc,gu⟩:=gx y (List.mem_of_getElem? hy);have hat:atI xs (at_:Int)=some (.ref a):=cY hy;refine ⟨_,rfl,_,rfl,L,_,_,_,rfl,rfl,SqL.of hL,hat,a,_,rfl,SqT.of ha,rfl,_,_,rfl,_,_,rfl,rfl,?_⟩;have nlen:(txs (sgs cs)).length=cs.length:=by rw [aX]; unfold sgs; rw [List.length_map]
  have cpos:0 < cs.length:=List.length_pos_iff.mpr cne;have nN:=sp.no_txs hN;have nL:=sp.no_refs hL gx;refine ⟨_,rfl,_,rfl,_,rfl,N,_,rfl,.inl (SqL.of hN),p,_,rfl,sp,by rw [nlen]; omega,aT (by omega) (by rw [nlen]; omega),fun d1 G1 d1a d1b sp1 o1=>?_⟩;have X1:Ext p H G1:=Ext.of_eq o1;obtain ⟨oc,hoc,hat1⟩:=rB (cs:=cs) d1a (by rw [← nlen]; exact d1b);refine ⟨N,_,_,_,rfl,rfl,SqL.of (X1 _ _ nN hN),hat1,?_⟩;refine ⟨_,rfl,_,rfl,_,_,rfl,rfl,p,_,rfl,sp1,by omega,aT (by omega) (by omega),fun nb G2 d2a d2b sp2 o2=>?_⟩;have X2:=X1.trans (Ext.of_eq o2);refine ⟨_,rfl,p,10,rfl,sp2,by decide,aT (by decide) (by decide),fun way G3 d3a d3b sp3 o3=>?_⟩;have X3:=X2.trans (Ext.of_eq o3);clear X1 X2 sp1 sp2 o1 o2 o3;have hL3:=X3 _ _ nL hL;have gx3:∀y∈xs,GR G3 cs wd (d - 1) y:=fun y hy=>(gx y hy).src sp X3;have iu3:IsT G3 t u:=IsT.src sp X3 iu;refine ⟨_,rfl,rfl,_,rfl,bE (fun e=>?_) (fun e6=>?_)⟩
  ·refine ⟨_,rfl,L,_,rfl,SqL.of hL3,?_⟩
   (intro Rv gRv; generalize hEq:upd _ Rv _=G4; refine aZ hEq gRv ?_; clear hEq; intro S4 e4 o4)
   obtain ⟨bs',i',g'⟩:=mkT (cs:=cs) (w:=wd) (d:=d - 1) e4 (fun y hy=>(gx3 y (List.mem_reverse.mp hy)).same S4) (by rw [List.length_reverse]; exact xw);exact q Rv bs' G4 (X3.trans (Ext.same S4)) (sp3.same S4) i' (GT.up (by omega) (by omega) g')
  refine ⟨_,rfl,rfl,_,rfl,bE (fun e=>?_) (fun e9=>?_)⟩
  ·refine ⟨_,rfl,_,rfl,L,_,rfl,.inl (SqL.of hL3),_,_,rfl,rfl,p,_,rfl,sp3,by omega,aT (by omega) (by omega),fun pl G4 d4a d4b sp4 o4=>?_⟩;have X4:=X3.trans (Ext.of_eq o4);obtain ⟨n,rfl⟩:=Int.eq_ofNat_of_zero_le d4a;have nx:n≤xs.length:=by omega
   refine ⟨_,rfl,_,rfl,Nat.zero_le _,?_⟩
   (intro el gel; generalize hEq:upd _ el _=G5; refine aZ hEq gel ?_; clear hEq; intro S5 e5 o5)
   refine ⟨s100 (show 4≤100 by decide),?_⟩
   (intro ml gml; generalize hEq:upd _ ml _=G6; refine aZ hEq gml ?_; clear hEq; intro S6 e6' o6)
   have sp5:=sp4.same S5;have sp6:=sp5.same S6;refine ⟨_,rfl,p,4,rfl,sp6,by decide,aT (by decide) (by decide),fun d5 G7 d5a d5b sp7 o7=>?_⟩;have X7:Ext p H G7:=(X4.trans (Ext.same (S5.trans S6))).trans (Ext.of_eq o7);have eml:G7 ml=_:=(o7 ml (sp5.ne gml)).trans e6';have eel:G7 el=some (.lst []):=(o7 el (sp4.ne gel)).trans (S6 _ _ e5);obtain ⟨mv,hmv,mt,hmt,gmt⟩:∃mv,atI [V.int nb,V.int nb,V.ref el,V.bl true] d5=some mv∧∃t,IsT G7 t mv∧GT cs wd 1 t:=by
    have c:d5=0∨d5=1∨d5=2∨d5=3:=by omega
    rcases c with rfl | rfl | rfl | rfl
    ·exact ⟨_,rfl,.num nb,rfl,trivial⟩
    ·exact ⟨_,rfl,.num nb,rfl,trivial⟩
    ·exact ⟨_,rfl,.br .nil,⟨el,[],rfl,eel,rfl⟩,by decide,Nat.zero_le _,trivial⟩
    ·exact ⟨_,rfl,.yes,rfl,trivial⟩
   refine ⟨ml,_,_,_,rfl,rfl,SqL.of eml,hmv,?_⟩;have hL7:=X7 _ _ nL hL;have gx7:∀y∈xs,GR G7 cs wd (d - 1) y:=fun y hy=>(gx y hy).src sp X7;refine ⟨_,rfl,_,rfl,_,rfl,L,_,rfl,SqL.of hL7,?_⟩
   (intro p1 gp1; generalize hEq:upd _ p1 _=G8; refine aZ hEq gp1 ?_; clear hEq; intro S8 e8 o8)
   rw [ki nx] at e8;refine ⟨_,rfl,_,rfl,s100 (show 2≤100 by decide),?_⟩
   (intro tt gtt; generalize hEq:upd _ tt _=G9; refine aZ hEq gtt ?_; clear hEq; intro S9 e9' o9)
   refine ⟨s100 (show 1≤100 by decide),?_⟩
   (intro tl gtl; generalize hEq:upd _ tl _=Ga; refine aZ hEq gtl ?_; clear hEq; intro Sa ea oa)
   refine ⟨p1,tl,_,_,rfl,rfl,Sa _ _ (S9 _ _ e8),ea,s100 (by rw [List.length_take]; show min n xs.length + 1≤100; omega),?_⟩
   (intro p2 gp2; generalize hEq:upd _ p2 _=Gb; refine aZ hEq gp2 ?_; clear hEq; intro Sb eb ob)
   have S7b:=((S8.trans S9).trans Sa).trans Sb;refine ⟨_,rfl,_,rfl,_,rfl,L,_,rfl,SqL.of (S7b _ _ hL7),?_⟩
   (intro p3 gp3; generalize hEq:upd _ p3 _=Gc; refine aZ hEq gp3 ?_; clear hEq; intro Sc ec oc')
   rw [iX nx] at ec;have l3:=vN (ms:=[V.ref tt]) nx nx;refine ⟨p2,p3,_,_,rfl,rfl,Sc _ _ eb,ec,s100 (by rw [← List.length_append,l3]; show n + 1 + (xs.length - n)≤100; omega),?_⟩
   (intro p4 gp4; generalize hEq:upd _ p4 _=Gd; refine aZ hEq gp4 ?_; clear hEq; intro Sd ed od)
   have S7d:=(S7b.trans Sc).trans Sd;have Sad:Same G9 Gd:=((Sa.trans Sb).trans Sc).trans Sd;obtain ⟨bs',i',g'⟩:=mkT (cs:=cs) (w:=wd + 1) (d:=d) ed (fun y hy=>by
    rcases vM hy with hy | hy
    ·exact ((gx7 y hy).same S7d).up (by omega) (by omega)
    ·rw [List.mem_singleton.mp hy];exact ⟨tt,oc,mt,mv,rfl,Sad _ _ e9',IsT.kp (Kp.same S7d) hmt,hoc,GT.up (by omega) (by omega) gmt⟩) (by rw [l3]; show n + 1 + (xs.length - n)≤_; omega)
   exact q p4 bs' Gd (X7.trans (Ext.same S7d)) (sp7.same S7d) i' g'
  refine ⟨_,rfl,_,rfl,s100 (show 2≤100 by decide),?_⟩
  (intro a1 ga1; generalize hEq:upd _ a1 _=A1; refine aZ hEq ga1 ?_; clear hEq; intro SA1 ea1 oa1)
  refine ⟨s100 (show 1≤100 by decide),?_⟩
  (intro l1 gl1; generalize hEq:upd _ l1 _=A2; refine aZ hEq gl1 ?_; clear hEq; intro SA2 el1 ol1)
  refine ⟨_,rfl,_,rfl,_,rfl,s100 (show 2≤100 by decide),?_⟩
  (intro b1 gb1; generalize hEq:upd _ b1 _=A3; refine aZ hEq gb1 ?_; clear hEq; intro SA3 eb1 ob1)
  refine ⟨s100 (show 1≤100 by decide),?_⟩
  (intro bl gbl; generalize hEq:upd _ bl _=A4; refine aZ hEq gbl ?_; clear hEq; intro SA4 ebl obl)
  refine ⟨s100 (show 2≤100 by decide),?_⟩
  (intro b2 gb2; generalize hEq:upd _ b2 _=A5; refine aZ hEq gb2 ?_; clear hEq; intro SA5 eb2 ob2)
  refine ⟨s100 (show 1≤100 by decide),?_⟩
  (intro l2 gl2; generalize hEq:upd _ l2 _=A6; refine aZ hEq gl2 ?_; clear hEq; intro SA6 el2 ol2)
  refine ⟨_,rfl,_,rfl,s100 (show 2≤100 by decide),?_⟩
  (intro c1 gc1; generalize hEq:upd _ c1 _=A7; refine aZ hEq gc1 ?_; clear hEq; intro SA7 ec1 oc1)
  refine ⟨s100 (show 1≤100 by decide),?_⟩
  (intro l3 gl3; generalize hEq:upd _ l3 _=A8; refine aZ hEq gl3 ?_; clear hEq; intro SA8 el3 ol3)
  refine ⟨Nat.zero_le _,?_⟩
  (intro l4 gl4; generalize hEq:upd _ l4 _=A9; refine aZ hEq gl4 ?_; clear hEq; intro SA9 el4 ol4)
  refine ⟨_,rfl,_,rfl,s100 (show 2≤100 by decide),?_⟩
  (intro e1 ge1; generalize hEq:upd _ e1 _=B1; refine aZ hEq ge1 ?_; clear hEq; intro SB1 ee1 oe1)
  refine ⟨_,rfl,_,rfl,s100 (show 2≤100 by decide),?_⟩
  (intro e2 ge2; generalize hEq:upd _ e2 _=B2; refine aZ hEq ge2 ?_; clear hEq; intro SB2 ee2 oe2)
  refine ⟨s100 (show 2≤100 by decide),?_⟩
  (intro l5 gl5; generalize hEq:upd _ l5 _=B3; refine aZ hEq gl5 ?_; clear hEq; intro SB3 el5 ol5)
  refine ⟨s100 (show 5≤100 by decide),?_⟩
  (intro so gso; generalize hEq:upd _ so _=Z; refine aZ hEq gso ?_; clear hEq; intro SZ eso oso)
  have z5:=SZ;have z4:=SB3.trans z5;have z3:=SB2.trans z4;have z2:=SB1.trans z3;have z1:=SA9.trans z2;have y8:=SA8.trans z1;have y7:=SA7.trans y8;have y6:=SA6.trans y7;have y5:=SA5.trans y6;have y4:=SA4.trans y5;have y3:=SA3.trans y4;have y2:=SA2.trans y3;have y1:=SA1.trans y2;have iuZ:IsT Z t u:=IsT.kp (Kp.same y1) iu3;have wd1:1≤wd:=by omega
  have guu:GT cs wd d t:=GT.up (Nat.le_refl _) (by omega) gu;obtain ⟨A0,ms0,hatm,hA0,lm0,gm0⟩:∃(A:Addr) (ms:List V),atI [V.ref l1,V.ref l2,V.ref l3,V.ref l4,V.ref l5] (if (4:Int) < way then 4 else way)=some (.ref A)∧Z A=some (.lst ms)∧ms.length≤2∧∀y∈ms,GR Z cs wd d y:=by
   have cw:way=0∨way=1∨way=2∨way=3∨4≤way:=by omega
   rcases cw with rfl | rfl | rfl | rfl | cw
   ·refine ⟨l1,_,rfl,y3 _ _ el1,by show (1:Nat)≤2; decide,fun y hy=>?_⟩;rw [List.mem_singleton.mp hy];exact ⟨a1,oc,t,u,rfl,y2 _ _ ea1,iuZ,hoc,guu⟩
   ·refine ⟨l2,_,rfl,y7 _ _ el2,by show (1:Nat)≤2; decide,fun y hy=>?_⟩;rw [List.mem_singleton.mp hy];exact ⟨b2,c,.br (.cons oc t .nil),_,rfl,y6 _ _ eb2,⟨bl,[b1],rfl,y5 _ _ ebl,b1,u,[],rfl,y4 _ _ eb1,iuZ,rfl⟩,hc,d0,wd1,hoc,gu,trivial⟩
   ·refine ⟨l3,_,rfl,z1 _ _ el3,by show (1:Nat)≤2; decide,fun y hy=>?_⟩;rw [List.mem_singleton.mp hy];exact ⟨c1,c,.num nb,_,rfl,y8 _ _ ec1,rfl,hc,trivial⟩
   ·exact ⟨l4,_,rfl,z2 _ _ el4,Nat.zero_le _,nofun⟩
   ·refine ⟨l5,_,?_,z5 _ _ el5,by show (2:Nat)≤2; decide,fun y hy=>?_⟩
    ·have:(if (4:Int) < way then 4 else way)=4:=by split <;> omega
     rw [this]; rfl
    rcases List.mem_cons.mp hy with rfl | hy
    ·exact ⟨e1,c,t,u,rfl,z3 _ _ ee1,iuZ,hc,guu⟩
    ·rw [List.mem_singleton.mp hy];exact ⟨e2,oc,t,u,rfl,z4 _ _ ee2,iuZ,hoc,guu⟩
  refine ⟨_,rfl,_,rfl,way,4,rfl,so,_,_,_,rfl,rfl,SqL.of eso,hatm,?_⟩;have spZ:=sp3.same y1;have XZ:=X3.trans (Ext.same y1);have hLZ:=y1 _ _ hL3;have gxZ:∀y∈xs,GR Z cs wd (d - 1) y:=fun y hy=>(gx3 y hy).same y1;refine ⟨fun σ G=>∃(A:Addr) (ms:List V),σ=[some (.ref L),some (.int at_),some (.ref N),some (.int many),some (.ref p),some (.str (sg1 c)),some u,some (.str (sg1 oc)),some (.int nb),some (.int way),none,none,some (.ref so),some (.ref A)]∧Same Z G∧G A=some (.lst ms)∧ms.length≤2∧∀y∈ms,GR G cs wd d y,?_,?_⟩
  ·refine ⟨_,rfl,rfl,_,rfl,bE (fun e5=>?_) (fun e5=>?_)⟩
   ·cases t with
    | num n=>
     have ev:u = .int n:=iu3;subst ev;refine ⟨_,rfl,_,_,_,false,rfl,.of (.int n),.inl ⟨_,rfl,xB⟩,_,rfl,aU (aU ?_)⟩;exact ⟨A0,ms0,rfl,Same.refl _,hA0,lm0,gm0⟩
    | yes=>
     have ev:u = .bl true:=iu3;subst ev;refine ⟨_,rfl,_,_,_,false,rfl,.of (.bl true),.inl ⟨_,rfl,xA⟩,_,rfl,aU (aU ?_)⟩;exact ⟨A0,ms0,rfl,Same.refl _,hA0,lm0,gm0⟩
    | br bs2=>
     obtain ⟨L2,eu⟩:∃L2,u = .ref L2:=by obtain ⟨L2,_,e,_⟩:=id iuZ; exact ⟨L2,e⟩
     subst eu;obtain ⟨xs2,hL2,xw2,xl2,d02,gx2⟩:=unT iuZ gu;refine ⟨_,rfl,_,_,_,true,rfl,.of (.lst hL2),.inl ⟨_,rfl,kl1⟩,_,rfl,bc ?_⟩;refine ⟨_,rfl,Nat.zero_le _,?_⟩
     (intro n0 gn0; generalize hEq:upd _ n0 _=G1; refine aZ hEq gn0 ?_; clear hEq; intro S1 en0 on0)
     cases xs2 with
     | nil=>
      refine ⟨0,true,by decide,cU (SqL.of (S1 _ _ hL2)) (SqL.of en0) nofun,_,rfl,aU ?_⟩;exact ⟨A0,ms0,rfl,S1,S1 _ _ hA0,lm0,fun y hy=>(gm0 y hy).same S1⟩
     | cons y2 xs2=>
      refine ⟨0,false,by decide,.lens (SqL.of (S1 _ _ hL2)) (SqL.of en0) (by simp),_,rfl,bc ?_⟩;obtain ⟨a2,c2,t2,u2,rfl,ha2,iu2,hc2,gu2⟩:=(gx2 y2 List.mem_cons_self).same S1;refine ⟨_,rfl,_,rfl,L2,_,_,_,rfl,rfl,SqL.of (S1 _ _ hL2),cY (j:=0) rfl,a2,_,_,_,rfl,rfl,SqT.of ha2,rfl,s100 (show 2≤100 by decide),?_⟩
      (intro tt gtt; generalize hEq:upd _ tt _=G2; refine aZ hEq gtt ?_; clear hEq; intro S2 e2' o2)
      refine ⟨s100 (show 1≤100 by decide),?_⟩
      (intro tl gtl; generalize hEq:upd _ tl _=G3; refine aZ hEq gtl ?_; clear hEq; intro S3 e3 o3)
      refine ⟨tl,_,rfl,S1.trans (S2.trans S3),e3,by show (1:Nat)≤2; decide,fun y hy=>?_⟩;rw [List.mem_singleton.mp hy];exact ⟨tt,c,t2,u2,rfl,S3 _ _ e2',IsT.kp (Kp.same (S2.trans S3)) iu2,hc,GT.up (by omega) (by omega) gu2⟩
   ·exact aU ⟨A0,ms0,rfl,Same.refl _,hA0,lm0,gm0⟩
  rintro σ G ⟨A,ms,rfl,sG,hA,lm,gm⟩;refine ⟨fun σ G=>∃(A:Addr) (ms:List V),σ=[some (.ref L),some (.int at_),some (.ref N),some (.int many),some (.ref p),some (.str (sg1 c)),some u,some (.str (sg1 oc)),some (.int nb),some (.int way),none,none,some (.ref so),some (.ref A)]∧Same Z G∧G A=some (.lst ms)∧ms.length≤2∧∀y∈ms,GR G cs wd d y,?_,?_⟩
  ·refine ⟨_,rfl,rfl,_,rfl,bE (fun e5=>?_) (fun e5=>?_)⟩
   ·refine ⟨_,rfl,s100 (show 2≤100 by decide),?_⟩
    (intro tt gtt; generalize hEq:upd _ tt _=G2; refine aZ hEq gtt ?_; clear hEq; intro S2 e2' o2)
    refine ⟨s100 (show 1≤100 by decide),?_⟩
    (intro tl gtl; generalize hEq:upd _ tl _=G3; refine aZ hEq gtl ?_; clear hEq; intro S3 e3 o3)
    refine ⟨tl,_,rfl,sG.trans (S2.trans S3),e3,by show (1:Nat)≤2; decide,fun y hy=>?_⟩;rw [List.mem_singleton.mp hy];exact ⟨tt,c,.yes,_,rfl,S3 _ _ e2',rfl,hc,trivial⟩
   ·exact ⟨A,ms,rfl,sG,hA,lm,gm⟩
  rintro σ G ⟨A,ms,rfl,sG,hA,lm,gm⟩;refine ⟨fun σ G=>∃(A:Addr) (ms:List V),σ=[some (.ref L),some (.int at_),some (.ref N),some (.int many),some (.ref p),some (.str (sg1 c)),some u,some (.str (sg1 oc)),some (.int nb),some (.int way),none,none,some (.ref so),some (.ref A)]∧Same Z G∧G A=some (.lst ms)∧ms.length≤2∧∀y∈ms,GR G cs wd d y,?_,?_⟩
  ·refine ⟨_,rfl,rfl,_,rfl,bE (fun e5=>?_) (fun e5=>?_)⟩
   ·refine ⟨_,rfl,Nat.zero_le _,?_⟩
    (intro el gel; generalize hEq:upd _ el _=G1; refine aZ hEq gel ?_; clear hEq; intro S1 e1' o1)
    refine ⟨s100 (show 2≤100 by decide),?_⟩
    (intro tt gtt; generalize hEq:upd _ tt _=G2; refine aZ hEq gtt ?_; clear hEq; intro S2 e2' o2)
    refine ⟨s100 (show 1≤100 by decide),?_⟩
    (intro tl gtl; generalize hEq:upd _ tl _=G3; refine aZ hEq gtl ?_; clear hEq; intro S3 e3 o3)
    refine ⟨tl,_,rfl,sG.trans ((S1.trans S2).trans S3),e3,by show (1:Nat)≤2; decide,fun y hy=>?_⟩;rw [List.mem_singleton.mp hy];exact ⟨tt,c,.br .nil,_,rfl,S3 _ _ e2',⟨el,[],rfl,S3 _ _ (S2 _ _ e1'),rfl⟩,hc,d0,Nat.zero_le _,trivial⟩
   ·exact ⟨A,ms,rfl,sG,hA,lm,gm⟩
  rintro σ G ⟨A,ms,rfl,sG,hA,lm,gm⟩;have atx:at_≤xs.length:=by omega
  have atx1:at_ + 1≤xs.length:=by omega
  have hLG:=sG _ _ hLZ;have gxG:∀y∈xs,GR G cs wd (d - 1) y:=fun y hy=>(gxZ y hy).same sG;refine ⟨_,rfl,_,rfl,_,rfl,L,_,rfl,SqL.of hLG,?_⟩
  (intro p1 gp1; generalize hEq:upd _ p1 _=G8; refine aZ hEq gp1 ?_; clear hEq; intro S8 e8 o8)
  rw [ki atx] at e8;refine ⟨_,rfl,p1,A,_,_,rfl,rfl,e8,S8 _ _ hA,s100 (by rw [List.length_take]; omega),?_⟩
  (intro p2 gp2; generalize hEq:upd _ p2 _=Gb; refine aZ hEq gp2 ?_; clear hEq; intro Sb eb ob)
  refine ⟨_,rfl,_,rfl,_,_,rfl,rfl,_,rfl,L,_,rfl,SqL.of (Sb _ _ (S8 _ _ hLG)),?_⟩
  (intro p3 gp3; generalize hEq:upd _ p3 _=Gc; refine aZ hEq gp3 ?_; clear hEq; intro Sc ec oc')
  rw [show ((at_:Nat):Int) + 1=((at_ + 1:Nat):Int) from rfl,iX atx1] at ec;have l3:=vN (ms:=ms) atx atx1;refine ⟨p2,p3,_,_,rfl,rfl,Sc _ _ eb,ec,s100 (by rw [← List.length_append,l3]; omega),?_⟩
  (intro p4 gp4; generalize hEq:upd _ p4 _=Gd; refine aZ hEq gp4 ?_; clear hEq; intro Sd ed od)
  have SGd:=((S8.trans Sb).trans Sc).trans Sd;obtain ⟨bs',i',g'⟩:=mkT (cs:=cs) (w:=wd + 1) (d:=d) ed (fun y hy=>by
   rcases vM hy with hy | hy
   ·exact ((gxG y hy).same SGd).up (by omega) (by omega)
   ·exact ((gm y hy).same SGd).up (by omega) (by omega)) (by rw [l3]; omega)
  exact q p4 bs' Gd (XZ.trans (Ext.same (sG.trans SGd))) ((spZ.same sG).same SGd) i' g'
def kj (k:Nat):Sp:=fun vs H Q _=>∃(L p N:Addr) (cs:List Nat) (wd d many:Nat) (bs:Bs),vs=[.ref L,.ref N,.int many,.ref p]∧IsT H (.br bs) (.ref L)∧GT cs wd d (.br bs)∧d < k∧wd≤50∧H N=some (.lst (txs (sgs cs)))∧cs≠[]∧cs.length≤6∧0 < many∧many≤20∧Src H p∧
 ∀L' bs' H',Ext p H H'→Src H' p→IsT H' (.br bs') (.ref L')→GT cs (wd + 1) (d + 1) (.br bs')→Q (.ref L') H'
theorem scBe:FnScope ["_law_rows","_law_names","_law_many","_law_source_here","_law_at","_law_sign","_law_node"] ["_law_rows","_law_names","_law_many","_law_source_here"] (af jt):=⟨rfl,rfl,rfl,by decide +kernel,rfl,by decide +kernel,by decide +kernel⟩
theorem xF {k:Nat} {f fD fH:Addr} {fd fdD fdH:FuncData} (F:FunG K "_law_bent" "_law_bent" jt .none f fd) (B:Bl mg)
  (GD:FnOk P w K mg base (CXE P w) 1 fD fdD ["_law_source_here","_law_many"] fQ) (mD:mg "_law_draw" = some (.ref fD)) (kD:PySem.W.keepIn K (.ref fD)=true) (bD:Binds K fdD ["_law_source_here","_law_many"] [])
  (GH:FnOk P w K mg base (CXE P w) 2 fH fdH ["_law_rows","_law_at","_law_names","_law_many","_law_source_here"] gi) (mH:mg "_law_bent_here" = some (.ref fH)) (kH:PySem.W.keepIn K (.ref fH)=true) (bH:Binds K fdH ["_law_rows","_law_at","_law_names","_law_many","_law_source_here"] [])
  (GY:FnOk P w K mg base (CXE P w) (k + 3) f fd ["_law_rows","_law_names","_law_many","_law_source_here"] (kj k)) (mY:mg "_law_bent" = some (.ref f)) (kY:PySem.W.keepIn K (.ref f)=true) (bY:Binds K fd ["_law_rows","_law_names","_law_many","_law_source_here"] []):FnOk P w K mg base (CXE P w) (k + 4) f fd ["_law_rows","_law_names","_law_many","_law_source_here"] (kj (k + 1)):=by
 refine F.zokN scBe (fun vs H Q E h=>?_) (fun cdv A outer s H vs Q E hr h=>?_)
 ·obtain ⟨L,p,N,cs,wd,d,many,bs,rfl,_⟩:=h;rfl
 ·obtain ⟨L,p,N,cs,wd,d,many,bs,rfl,it,gt,dk,w50,hN,cne,c6,m0,m20,sp,q⟩:=h;refine ⟨_,(ae (aH (aA (mK hr.units60) (zpv 0) (aO aa) (aG _)) (ah (ay (aO (cu (aY (cI (aJ bi (zpv 1) (aj GD (hr.mono (by omega)) (by rfl) mD kD bD .nil aw (ac (zpv 3) (bt (au aN (by rfl) B.len PySem.boot_len (ac (zpv 1) aa)) aa))) (fun _ _=>rfl)) (bt (aj GD (hr.mono (by omega)) (by rfl) mD kD bD .nil aw (ac (zpv 3) (ac (zpv 2) aa))) aa))) aa)))) az)
   (ae (ax (i:=4) scBe.nd rfl (Or.inl rfl) (aj GD (hr.mono (by omega)) (by rfl) mD kD bD .nil aw (ac (zpv 3) (bt (au aN (by rfl) B.len PySem.boot_len (ac (zpv 0) aa)) aa))))
   (ae (eL (aJ bi (zpv 0) (zpv 4) (fun _ _=>rfl)) (df rfl (aE (aq (i:=5) scBe.nd rfl (Or.inl rfl)) (aE (aq (i:=6) scBe.nd rfl (Or.inl rfl)) bw))))
   (ae (aH (SPW.pt (iS (aI (au aV (by rfl) B.isi aW (ac (zpv 6) (ac (ba (by rfl) B.list boot_list (v:=.ty "list") rfl) aa)))) (iR (aA cz (aj GD (hr.mono (by omega)) (by rfl) mD kD bD .nil aw (ac (zpv 3) (aM ag aa))) ag (aG _))))) (ah (ay (aS jc (aS jc (ce fj (zpv 0) cG (cH (zpv 4))) (aO (cu (aY (ac (zpv 5) (bt (aj GY hr (by rfl) mY kY bY .nil aw (ac (zpv 6) (ac (zpv 1) (ac (zpv 2) (ac (zpv 3) aa))))) aa))) aa))) (ce fj (zpv 0) (cH (aS cB (zpv 4) ag)) cG)))) az)
   (ah (ay (aj GH (hr.mono (by omega)) (by rfl) mH kH bH .nil aw (ac (zpv 0) (ac (zpv 4) (ac (zpv 1) (ac (zpv 2) (ac (zpv 3) aa)))))))))))),?_⟩
  have s100:∀{n:Nat},n≤100→n≤sizeLine:=fun h=>Nat.le_trans h (by decide);obtain ⟨xs,hL,xw,xl,d0,gx⟩:=unT it gt;have nlen:(txs (sgs cs)).length=cs.length:=by rw [aX]; unfold sgs; rw [List.length_map]
  have cpos:0 < cs.length:=List.length_pos_iff.mpr cne;have nN:=sp.no_txs hN;have nL:=sp.no_refs hL gx;refine ⟨_,rfl,Nat.zero_le _,?_⟩
  (intro n0 gn0; generalize hEq:upd _ n0 _=G0; refine aZ hEq gn0 ?_; clear hEq; intro S0 en0 on0)
  have sp0:=sp.same S0;have hL0:=S0 _ _ hL;have hN0:=S0 _ _ hN;cases xs with
  | nil=>
   refine ⟨0,true,by decide,cU (SqL.of hL0) (SqL.of en0) nofun,_,rfl,bc ?_⟩;refine ⟨_,rfl,_,rfl,_,rfl,N,_,rfl,.inl (SqL.of hN0),p,_,rfl,sp0,by rw [nlen]; omega,aT (by omega) (by rw [nlen]; omega),fun d1 G1 d1a d1b sp1 o1=>?_⟩;have X1:Ext p H G1:=(Ext.same S0).trans (Ext.of_eq o1);obtain ⟨oc,hoc,hat1⟩:=rB (cs:=cs) d1a (by rw [← nlen]; exact d1b);refine ⟨N,_,_,_,rfl,rfl,SqL.of (X1 _ _ nN hN),hat1,?_⟩;refine ⟨_,rfl,_,rfl,p,_,rfl,sp1,by omega,aT (by omega) (by omega),fun nb G2 d2a d2b sp2 o2=>⟨s100 (show 2≤100 by decide),?_⟩⟩;have X2:=X1.trans (Ext.of_eq o2)
   (intro tt gtt; generalize hEq:upd _ tt _=G3; refine aZ hEq gtt ?_; clear hEq; intro S3 e3 o3)
   refine ⟨s100 (show 1≤100 by decide),?_⟩
   (intro tl gtl; generalize hEq:upd _ tl _=G4; refine aZ hEq gtl ?_; clear hEq; intro S4 e4 o4)
   obtain ⟨bs',i',g'⟩:=mkT (cs:=cs) (w:=wd + 1) (d:=d) e4 (fun y hy=>by
    rw [List.mem_singleton.mp hy];exact ⟨tt,oc,.num nb,_,rfl,S4 _ _ e3,rfl,hoc,trivial⟩) (by show 1≤wd + 1; omega)
   exact q tl bs' G4 (X2.trans (Ext.same (S3.trans S4))) (sp2.same (S3.trans S4)) i' g'
  | cons y0 xs0=>
  refine ⟨0,false,by decide,.lens (SqL.of hL0) (SqL.of en0) (by simp),_,rfl,aU ?_⟩;generalize hxs:y0 :: xs0=xs at hL hL0 xw xl gx ⊢;have xp:0 < xs.length:=by rw [← hxs]; exact Nat.succ_pos _
  clear hxs;refine ⟨_,rfl,_,rfl,L,_,rfl,.inl (SqL.of hL0),p,_,rfl,sp0,by omega,aT (by omega) (by omega),fun at_ G1 d1a d1b sp1 o1=>?_⟩;have X1:Ext p H G1:=(Ext.same S0).trans (Ext.of_eq o1);obtain ⟨n,rfl⟩:=Int.eq_ofNat_of_zero_le d1a;have nx:n < xs.length:=by omega
  have hL1:=X1 _ _ nL hL;have gx1:∀y∈xs,GR G1 cs wd (d - 1) y:=fun y hy=>(gx y hy).src sp X1;obtain ⟨y,hy⟩:∃y,xs[n]? = some y:=⟨_,List.getElem?_eq_getElem nx⟩;obtain ⟨a,c,t,u,rfl,ha,iu,hc,gu⟩:=gx1 y (List.mem_of_getElem? hy);have hat:atI xs (n:Int)=some (.ref a):=cY hy;refine ⟨_,rfl,_,rfl,L,_,_,_,rfl,rfl,SqL.of hL1,hat,a,_,rfl,SqT.of ha,rfl,_,_,rfl,_,_,rfl,rfl,?_⟩;have hh:∀{G:Hp},Ext p H G→Src G p→gi [.ref L,.int (n:Int),.ref N,.int (many:Int),.ref p] G Q E:=fun {G} X s=>
   ⟨L,p,N,cs,wd,d,n,many,bs,rfl,IsT.src sp X it,gt,w50,by omega,X _ _ nN hN,cne,c6,m20,s,fun L' bs' H' x s i g=>q L' bs' H' (X.trans x) s i g⟩
  cases t with
  | num nn=>
   have ev:u = .int nn:=iu;subst ev;refine ⟨_,rfl,_,_,_,false,rfl,.of (.int nn),.inl ⟨_,rfl,xB⟩,_,rfl,aU (aU ?_)⟩;exact ⟨_,rfl,_,rfl,_,rfl,_,rfl,_,rfl,hh X1 sp1⟩
  | yes=>
   have ev:u = .bl true:=iu;subst ev;refine ⟨_,rfl,_,_,_,false,rfl,.of (.bl true),.inl ⟨_,rfl,xA⟩,_,rfl,aU (aU ?_)⟩;exact ⟨_,rfl,_,rfl,_,rfl,_,rfl,_,rfl,hh X1 sp1⟩
  | br bs2=>
   obtain ⟨L2,as2,eu,hL2,_⟩:=id iu;subst eu;refine ⟨_,rfl,_,_,_,true,rfl,.of (.lst hL2),.inl ⟨_,rfl,kl1⟩,_,rfl,bc ?_⟩;refine ⟨_,rfl,p,2,rfl,sp1,by decide,aT (by decide) (by decide),fun d2 G2 d2a d2b sp2 o2=>?_⟩;have X2:=X1.trans (Ext.of_eq o2);refine ⟨rfl,_,rfl,bE (fun e=>?_) (fun e=>?_)⟩
   ·have hL2':=X2 _ _ nL hL;have iu2:=IsT.src sp1 (Ext.of_eq o2) iu;refine ⟨_,rfl,_,rfl,_,rfl,L,_,rfl,SqL.of hL2',?_⟩
    (intro p1 gp1; generalize hEq:upd _ p1 _=G8; refine aZ hEq gp1 ?_; clear hEq; intro S8 e8 o8)
    rw [ki (Nat.le_of_lt nx)] at e8;have sp8:=sp2.same S8;have X8:=X2.trans (Ext.same S8);have n1:p1≠p:=sp2.ne gp1;refine ⟨_,rfl,_,rfl,_,rfl,_,rfl,_,rfl,L2,p,N,cs,wd,d - 1,many,bs2,rfl,IsT.kp (Kp.same S8) iu2,gu,by omega,w50,X8 _ _ nN hN,cne,c6,m0,m20,sp8,fun L3 bs3 G3 x3 sp3 i3 g3=>⟨s100 (show 2≤100 by decide),?_⟩⟩;have X3:=X8.trans x3
    (intro tt gtt; generalize hEq:upd _ tt _=G9; refine aZ hEq gtt ?_; clear hEq; intro S9 e9 o9)
    refine ⟨s100 (show 1≤100 by decide),?_⟩
    (intro tl gtl; generalize hEq:upd _ tl _=Ga; refine aZ hEq gtl ?_; clear hEq; intro Sa ea oa)
    have S3a:=S9.trans Sa;refine ⟨p1,tl,_,_,rfl,rfl,S3a _ _ (x3 _ _ n1 e8),ea,s100 (by rw [List.length_take]; show min n xs.length + 1≤100; omega),?_⟩
    (intro p2 gp2; generalize hEq:upd _ p2 _=Gb; refine aZ hEq gp2 ?_; clear hEq; intro Sb eb ob)
    have S3b:=S3a.trans Sb;have hLb:=S3b _ _ (X3 _ _ nL hL);refine ⟨_,rfl,_,rfl,_,_,rfl,rfl,_,rfl,L,_,rfl,SqL.of hLb,?_⟩
    (intro p3 gp3; generalize hEq:upd _ p3 _=Gc; refine aZ hEq gp3 ?_; clear hEq; intro Sc ec oc)
    rw [show ((n:Nat):Int) + 1=((n + 1:Nat):Int) from rfl,iX (show n + 1≤xs.length from nx)] at ec;have l3:=vN (ms:=[V.ref tt]) (Nat.le_of_lt nx) (show n + 1≤xs.length from nx);refine ⟨p2,p3,_,_,rfl,rfl,Sc _ _ eb,ec,s100 (by rw [← List.length_append,l3]; show n + 1 + (xs.length - (n + 1))≤100; omega),?_⟩
    (intro p4 gp4; generalize hEq:upd _ p4 _=Gd; refine aZ hEq gp4 ?_; clear hEq; intro Sd ed od)
    have S3d:=(S3b.trans Sc).trans Sd;have Sad:Same G9 Gd:=((Sa.trans Sb).trans Sc).trans Sd;have gx3:∀y∈xs,GR G3 cs wd (d - 1) y:=fun y hy=>(gx y hy).src sp X3;have d1:0 < d - 1:=by
     have:=gu.1;exact this
    obtain ⟨bs',i',g'⟩:=mkT (cs:=cs) (w:=wd + 1) (d:=d) ed (fun y hy=>by
     rcases vM hy with hy | hy
     ·exact ((gx3 y hy).same S3d).up (by omega) (by omega)
     ·rw [List.mem_singleton.mp hy];exact ⟨tt,c,.br bs3,_,rfl,Sad _ _ e9,IsT.kp (Kp.same S3d) i3,hc,GT.up (by omega) (by omega) g3⟩) (by rw [l3]; show n + 1 + (xs.length - (n + 1))≤_; omega)
    exact q p4 bs' Gd (X3.trans (Ext.same S3d)) (sp3.same S3d) i' g'
   ·exact ⟨_,rfl,_,rfl,_,rfl,_,rfl,_,rfl,hh X2 sp2⟩
theorem vO {f:Addr} {fd:FuncData} (F:FunG K "_law_bent" "_law_bent" jt .none f fd):FnOk P w K mg base (CXE P w) 3 f fd ["_law_rows","_law_names","_law_many","_law_source_here"] (kj 0):=by
 refine F.zokN scBe (fun vs H Q E h=>?_) (fun cdv A outer s H vs Q E hr h=>?_)
 ·obtain ⟨L,p,N,cs,wd,d,many,bs,rfl,_⟩:=h;rfl
 ·obtain ⟨L,p,N,cs,wd,d,many,bs,rfl,it,gt,dk,_⟩:=h;exact absurd dk (Nat.not_lt_zero _)
theorem pA {f fD fH:Addr} {fd fdD fdH:FuncData} (F:FunG K "_law_bent" "_law_bent" jt .none f fd) (B:Bl mg)
  (GD:FnOk P w K mg base (CXE P w) 1 fD fdD ["_law_source_here","_law_many"] fQ) (mD:mg "_law_draw" = some (.ref fD)) (kD:PySem.W.keepIn K (.ref fD)=true) (bD:Binds K fdD ["_law_source_here","_law_many"] [])
  (GH:FnOk P w K mg base (CXE P w) 2 fH fdH ["_law_rows","_law_at","_law_names","_law_many","_law_source_here"] gi) (mH:mg "_law_bent_here" = some (.ref fH)) (kH:PySem.W.keepIn K (.ref fH)=true) (bH:Binds K fdH ["_law_rows","_law_at","_law_names","_law_many","_law_source_here"] [])
  (mY:mg "_law_bent" = some (.ref f)) (kY:PySem.W.keepIn K (.ref f)=true) (bY:Binds K fd ["_law_rows","_law_names","_law_many","_law_source_here"] []):∀k,FnOk P w K mg base (CXE P w) (k + 3) f fd ["_law_rows","_law_names","_law_many","_law_source_here"] (kj k)
 | 0=>vO F
 | k + 1=>xF F B GD mD kD bD GH mH kH bH (pA F B GD mD kD bD GH mH kH bH mY kY bY k) mY kY bY
def pB (T1 T2:Addr) (K:PySem.W.Frag):Sp:=fun vs H Q _=>∃(a:Addr) (ns:List Int),vs=[.ref a]∧SqL K H a (ns.map V.int)∧ns.length≤63∧Tab T1 H∧Tab T2 H∧∀H',Q (.bl true) H'
theorem scLa:FnScope ["_law_script","_law_tongue_here","_law_book","_law_kept","_law_names","_law_many","_law_tree_here","_law_k","_law_source_here","_law_thing","_law_turn"] ["_law_script"] (af kE):=⟨rfl,rfl,rfl,by decide +kernel,rfl,by decide +kernel,by decide +kernel⟩
theorem zE {T1 T2:Addr} {f fC fS fD fW fP fJ fU fY fR:Addr} {fd fdC fdS fdD fdW fdP fdJ fdU fdY fdR:FuncData} (F:FunG K "law" "law" kE .none f fd) (B:Bl mg)
  (GC:FnOk P w K mg base (CXE P w) 1 fC fdC ["_law_script","_law_k"] (nk K)) (mC:mg "_law_cell" = some (.ref fC)) (kC:PySem.W.keepIn K (.ref fC)=true) (bC:Binds K fdC ["_law_script","_law_k"] [])
  (GS:FnOk P w K mg base (CXE P w) 1 fS fdS ["_law_cell_here","_law_k"] iP) (mS:mg "_law_source" = some (.ref fS)) (kS:PySem.W.keepIn K (.ref fS)=true) (bS:Binds K fdS ["_law_cell_here","_law_k"] [])
  (GD:FnOk P w K mg base (CXE P w) 1 fD fdD ["_law_source_here","_law_many"] fQ) (mD:mg "_law_draw" = some (.ref fD)) (kD:PySem.W.keepIn K (.ref fD)=true) (bD:Binds K fdD ["_law_source_here","_law_many"] [])
  (GW:FnOk P w K mg base (CXE P w) 5 fW fdW ["_law_script"] (rh K)) (mW:mg "_law_world" = some (.ref fW)) (kW:PySem.W.keepIn K (.ref fW)=true) (bW:Binds K fdW ["_law_script"] [])
  (GP:FnOk P w K mg base (CXE P w) 1 fP fdP ["_law_tongue_here"] (uY K)) (mP:mg "_law_copy" = some (.ref fP)) (kP:PySem.W.keepIn K (.ref fP)=true) (bP:Binds K fdP ["_law_tongue_here"] [])
  (GJ:FnOk P w K mg base (CXE P w) 11 fJ fdJ ["_law_tongue_here","_law_book"] vL) (mJ:mg "_law_tree" = some (.ref fJ)) (kJ:PySem.W.keepIn K (.ref fJ)=true) (bJ:Binds K fdJ ["_law_tongue_here","_law_book"] [])
  (GU:FnOk P w K mg base (CXE P w) 11 fU fdU ["_law_rows","_law_many","_law_by"] (gQ 10)) (mU:mg "_law_turned" = some (.ref fU)) (kU:PySem.W.keepIn K (.ref fU)=true) (bU:Binds K fdU ["_law_rows","_law_many","_law_by"] [])
  (GY:FnOk P w K mg base (CXE P w) 16 fY fdY ["_law_rows","_law_names","_law_many","_law_source_here"] (kj 13)) (mY:mg "_law_bent" = some (.ref fY)) (kY:PySem.W.keepIn K (.ref fY)=true) (bY:Binds K fdY ["_law_rows","_law_names","_law_many","_law_source_here"] [])
  (GR:FnOk P w K mg base (CXE P w) 27 fR fdR ["_law_tongue_here","_law_many","_law_thing"] (rz T1 T2)) (mR:mg "_law_right" = some (.ref fR)) (kR:PySem.W.keepIn K (.ref fR)=true) (bR:Binds K fdR ["_law_tongue_here","_law_many","_law_thing"] []):FnOk P w K mg base (CXE P w) 28 f fd ["_law_script"] (pB T1 T2 K):=by
 refine F.zokN scLa (fun vs H Q E h=>?_) (fun cdv A outer s H vs Q E hr h=>?_)
 ·obtain ⟨a,ns,rfl,_⟩:=h;rfl
 ·obtain ⟨a,ns,rfl,ha,_,t1,t2,q⟩:=h;refine ⟨_,(ae (eL (aj GW (hr.mono (by decide)) (by rfl) mW kW bW .nil aw (ac (zpv 0) aa)) (df rfl (aE (aq (i:=1) scLa.nd rfl (Or.inl rfl)) (aE (aq (i:=2) scLa.nd rfl (Or.inl rfl)) bw))))
   (ae (ax (i:=3) scLa.nd rfl (Or.inl rfl) (aj GP (hr.mono (by decide)) (by rfl) mP kP bP .nil aw (ac (zpv 1) aa)))
   (ae (h8 (i:=4) ["_law_script","_law_tongue_here","_law_book","_law_kept","_law_names","_law_many","_law_tree_here","_law_k","_law_source_here","_law_thing","_law_turn"] ["_law_one"] [] (af kE) rfl rfl rfl ⟨by decide +kernel,by decide +kernel,by decide +kernel,by decide +kernel,by decide +kernel⟩ scLa.nd rfl (Or.inl rfl) (aQ (aJ bj (zpv 1) ag (fun _ _=>rfl))) (fun s H fp=>(aq (i:=0) (show List.Nodup [("_law_one" : Str)] by decide +kernel) rfl (Or.inl rfl))) (fun s H fp=>bM) (fun s H fp=>(aJ (dL K rfl) (zpv 0) ag (fun _ _=>rfl))))
   (ae (ax (i:=5) scLa.nd rfl (Or.inl rfl) (au aN (by rfl) B.len PySem.boot_len (ac (zpv 2) aa)))
   (ae (ax (i:=6) scLa.nd rfl (Or.inl rfl) (aj GJ (hr.mono (by decide)) (by rfl) mJ kJ bJ .nil aw (ac (zpv 1) (ac (zpv 2) aa))))
   (ae (cE PassesOwn.never rfl (j0 (by rfl) B.range (aM ag (bt (au (lh rfl) (by rfl) B.max boot_max (aM ag (bt (au (i9 rfl) (by rfl) B.min boot_min (bt (au aN (by rfl) B.len PySem.boot_len (ac (zpv 0) aa)) (aM ag aa))) aa))) aa))) (aq (i:=7) scLa.nd rfl (Or.inl rfl))
     (ae (ax (i:=8) scLa.nd rfl (Or.inl rfl) (aj GS (hr.mono (by decide)) (by rfl) mS kS bS .nil aw (bt (aj GC (hr.mono (by decide)) (by rfl) mC kC bC .nil aw (ac (zpv 0) (ac (zpv 7) aa))) (cT (aS cB ag (zpv 7)) aa))))
   (ae (ax (i:=9) scLa.nd rfl (Or.inl rfl) (zpv 6))
   (ae (ge (aH (aA cz (aj GD (hr.mono (by decide)) (by rfl) mD kD bD .nil aw (ac (zpv 8) (aM ag aa))) ag (aG _)) (ah (ax (i:=9) scLa.nd rfl (Or.inl rfl) (aj GU (hr.mono (by decide)) (by rfl) mU kU bU .nil aw (ac (zpv 6) (ac (zpv 5) (bt (aj GD (hr.mono (by decide)) (by rfl) mD kD bD .nil aw (ac (zpv 8) (ac (zpv 5) aa))) aa)))))) az))
   (ae (cE PassesOwn.never rfl (dw (by rfl) B.range (bt (aj GD (hr.mono (by decide)) (by rfl) mD kD bD .nil aw (ac (zpv 8) (aM ag aa))) aa)) (aq (i:=10) scLa.nd rfl (Or.inl rfl))
       (ah (ax (i:=9) scLa.nd rfl (Or.inl rfl) (aj GY (hr.mono (by decide)) (by rfl) mY kY bY .nil aw (ac (zpv 9) (ac (zpv 4) (ac (zpv 5) (ac (zpv 8) aa))))))))
   (ah (aH (aR (aI (aj GR hr (by rfl) mR kR bR .nil aw (ac (zpv 1) (ac (zpv 5) (ac (zpv 9) aa)))))) (ah (ay bQ)) az)))))))
   (ah (ay (bx (mK hr.units60) (zpv 1) (zpv 3) (aG _)))))))))),?_⟩
  have s100:∀{n:Nat},n≤100→n≤sizeLine:=fun h=>Nat.le_trans h (by decide);refine ⟨_,rfl,a,ns,rfl,ha,fun u t Bk cs fs ps lg bk H1 s1 eu tg hB fB book=>?_⟩;refine ⟨u,_,rfl,SqT.of eu,rfl,_,_,rfl,_,_,rfl,rfl,?_⟩;obtain ⟨S,Fr,Pp,xs,h1,h2,rows,h4,h5⟩:=tg.ex;have c6:=tg.c6;have c2:=tg.c2;have l20:=book.le;have bp:0 < bk.length:=List.length_pos_iff.mpr book.ne;refine ⟨_,rfl,t,S,Fr,Pp,_,xs,txs fs,txs ps,rfl,h1,h2,h4,h5,fun u' S' F' P' H2 fu fS fF fP eu' eS eF eP s2=>?_⟩;refine ⟨_,rfl,t,_,_,_,rfl,rfl,SqT.of (s2 _ _ h1),rfl,S,rfl,⟨_,SqL.of (s2 _ _ h2)⟩,fun N hN=>?_⟩;refine de (xs:=xs) (fun i σ G=>(∃v,σ=[v])∧Same H2 G∧G N=some (.lst (txs (sgs (cs.take i))))) ⟨⟨_,rfl⟩,aF hN,ai⟩ (fun i σ G p=>SqL.of (p.2.1 _ _ (s2 _ _ h2))) ?_ ?_
  ·rintro i x σ G C hx ⟨⟨v,rfl⟩,sG,hNG⟩ nx;obtain ⟨c,hc,row⟩:=rows.at hx;have il:=(List.getElem?_eq_some_iff.mp hc).1;obtain ⟨b,p,la,rfl,hb,_⟩:=row.ex;have tc:cs.take (i + 1)=cs.take i ++ [c]:=by rw [List.take_add_one,hc]; rfl
   dsimp only [cF];refine ⟨_,rfl,b,_,_,_,rfl,rfl,SqT.of (sG _ _ (s2 _ _ hb)),rfl,_,hNG,?_,nx _ _ ⟨⟨_,rfl⟩,fun u o h=>by rw [am (ak h hN)]; exact sG _ _ h,?_⟩⟩
   ·rw [aX];unfold sgs;rw [List.length_map,List.length_take];exact Nat.lt_of_le_of_lt (show min i cs.length≤6 by omega) (by decide)
   ·rw [ai,tc];unfold txs sgs;rw [List.map_append,List.map_append]; rfl
  rintro σ H3 ⟨⟨v,rfl⟩,s3,hN3⟩;rw [rows.len,List.take_length] at hN3;have S13:=s2.trans s3;have hB3:=S13 _ _ hB;have tg3:=tg.kp (Kp.same S13);refine ⟨_,rfl,Bk,_,rfl,.inl (SqL.of hB3),?_⟩;refine ⟨_,rfl,_,rfl,t,Bk,cs,fs,ps,lg,bk,rfl,tg3,hB3,book,fun Tr bs H4 s4 it4 gt4 ny4=>?_⟩;have S14:=S13.trans s4;have S04:=s1.trans S14;have tlen:(txs bk).length=bk.length:=aX bk;have k04:Kp H H4:=Kp.same S04;obtain ⟨hi,ehi,h10,h63⟩:∃hi:Int,(if (if (63:Int) < ((ns.map V.int).length:Int) then (63:Int) else ((ns.map V.int).length:Int)) > 10 then (if (63:Int) < ((ns.map V.int).length:Int) then (63:Int) else ((ns.map V.int).length:Int)) else 10)=hi∧10≤hi∧hi≤63:=by
   refine ⟨_,rfl,?_,?_⟩
   ·split <;> omega
   ·split <;> split <;> omega
  have hN4:=s4 _ _ hN3;have cne:cs≠[]:=fun z=>by rw [z] at c2; exact absurd c2 (by decide)
  refine ⟨_,rfl,a,_,rfl,.inl (fh ha S04),_,_,rfl,_,_,rfl,2,hi,by rw [← ehi],⟨by omega,by omega,by omega,by omega⟩,?_⟩;refine dn (lo:=2) (n:=(hi - 2).toNat) (fun i σ G=>(∃v7 v8 v9 v10,σ=[some (.ref a),some (.ref t),some (.ref Bk),some (.ref u'),some (.ref N),some (.int ((txs bk).length:Int)),some (.ref Tr),v7,v8,v9,v10])∧Kp H4 G∧Tab T1 G∧Tab T2 G)
   ⟨⟨_,_,_,_,rfl⟩,Kp.refl,t1.same S04,t2.same S04⟩ ?_ ?_
  ·rintro i σ G hi' ⟨⟨v7,v8,v9,v10,rfl⟩,kG,t1G,t2G⟩;have ilt:(i:Int) < hi - 2:=by omega
   refine ⟨_,rfl,_,rfl,a,ns,2 + (i:Int),rfl,u7 ha (k04.trans kG),by omega,fun zc=>⟨_,rfl,_,_,rfl,rfl,zc,200 + (2 + (i:Int)),rfl,by omega,by omega,fun p G2 fp sp op=>?_⟩⟩;have keep:∀{Gb:Hp},Ext p G2 Gb→Same G Gb:=fun {Gb} x b o h=>x b o (ak h fp) ((op b (ak h fp)).trans h);have k2:Kp H4 G2:=kG.trans (Kp.same (keep Ext.refl));refine ⟨_,rfl,?_⟩;refine ⟨fun σ G5=>∃(L':Addr) (bs':Bs),σ=[some (.ref a),some (.ref t),some (.ref Bk),some (.ref u'),some (.ref N),some (.int ((txs bk).length:Int)),some (.ref Tr),some (.int (2 + (i:Int))),some (.ref p),some (.ref L'),v10]∧Ext p G2 G5∧Src G5 p∧IsT G5 (.br bs') (.ref L')∧GT cs 6 9 (.br bs'),?_,?_⟩
   ·refine ⟨_,rfl,p,2,rfl,sp,by decide,aT (by decide) (by decide),fun d G3 da db sp3 o3=>⟨rfl,_,rfl,bE (fun e=>?_) (fun e=>?_)⟩⟩
    ·have X3:Ext p G2 G3:=Ext.of_eq o3;refine ⟨_,rfl,_,rfl,_,rfl,_,rfl,p,_,rfl,sp3,by rw [tlen]; omega,aT (by rw [tlen]; omega) (by rw [tlen]; omega),fun d2 G4 d2a d2b sp4 o4=>?_⟩;have X4:=X3.trans (Ext.of_eq o4);refine ⟨Tr,cs,9,6,_,d2,bs,rfl,by rw [tlen]; omega,IsT.kp (kG.trans (Kp.same (keep X4))) it4,gt4,ny4,by decide,by decide,fun L' bs' G5 s5 nt5 g5=>⟨L',bs',rfl,X4.trans (Ext.same s5),sp4.same s5,nt5.is,g5⟩⟩
    ·exact ⟨Tr,bs,rfl,Ext.of_eq o3,sp3,IsT.kp (kG.trans (Kp.same (keep (Ext.of_eq o3)))) it4,gt4⟩
   rintro σ G5 ⟨L',bs',rfl,X5,sp5,it5,gt5⟩;refine ⟨_,rfl,p,4,rfl,sp5,by decide,aT (by decide) (by decide),fun m G6 ma mb sp6 o6=>⟨m,rfl,by omega,by omega,?_⟩⟩;have X6:=X5.trans (Ext.of_eq o6);have it6:=IsT.src sp5 (Ext.of_eq o6) it5;refine dn (lo:=0) (n:=m.toNat) (fun j σ G=>(∃(L':Addr) (bs':Bs) (v10:Option V),σ=[some (.ref a),some (.ref t),some (.ref Bk),some (.ref u'),some (.ref N),some (.int ((txs bk).length:Int)),some (.ref Tr),some (.int (2 + (i:Int))),some (.ref p),some (.ref L'),v10]∧Ext p G2 G∧Src G p∧IsT G (.br bs') (.ref L')∧GT cs (6 + j) (9 + j) (.br bs')))
    ⟨L',bs',_,rfl,X6,sp6,it6,gt5⟩ ?_ ?_
   ·rintro j σ G7 hj ⟨L7,bs7,v11,rfl,X7,sp7,it7,gt7⟩;refine ⟨_,rfl,_,rfl,_,rfl,_,rfl,L7,p,N,cs,6 + j,9 + j,(txs bk).length,bs7,rfl,it7,gt7,by omega,by omega,?_,cne,c6,by rw [tlen]; exact bp,by rw [tlen]; exact l20,sp7,fun L8 bs8 G8 x8 sp8 it8 gt8=>⟨L8,bs8,_,rfl,X7.trans x8,sp8,it8,gt8⟩⟩;exact keep X7 _ _ (kG.lst hN4)
   rintro σ G7 ⟨L7,bs7,v11,rfl,X7,sp7,it7,gt7⟩;have S7:=keep X7;have k7:Kp H4 G7:=kG.trans (Kp.same S7);refine ⟨_,rfl,_,rfl,_,rfl,t,L7,cs,fs,ps,lg,(txs bk).length,bs7,rfl,(tg.kp (Kp.same S14)).kp k7,t1G.same S7,t2G.same S7,it7,GT.up (by omega) (by omega) gt7,by rw [tlen]; exact l20,fun G8 k8 t18 t28=>⟨_,rfl,aU ?_⟩⟩;exact ⟨⟨_,_,_,_,rfl⟩,k7.trans k8,t18,t28⟩
  ·rintro σ G ⟨⟨v7,v8,v9,v10,rfl⟩,kG,t1G,t2G⟩;have k2G:Kp H2 G:=(Kp.same (s3.trans s4)).trans kG;have k1G:Kp H1 G:=(Kp.same s2).trans k2G;have xr:∀y∈xs,cA y=true∨∃r,y=V.ref r:=fun y hy=>by
    obtain ⟨i,hi⟩:=List.getElem?_of_mem hy;obtain ⟨c',_,row⟩:=rows.at hi;obtain ⟨a',_,_,e,_⟩:=row.ex;exact .inr ⟨a',e⟩
   refine ⟨_,rfl,_,rfl,1,true,by decide,?_,q _⟩;refine nE (SqT.of (k1G.tup h1)) (SqT.of (k2G.tup eu')) rfl fun j x y hx hy=>?_
   match j,hx,hy with
   | 0,hx,hy=>cases hx; cases hy; exact iC (cU (SqL.of (k1G.lst h2)) (SqL.of (k2G.lst eS)) xr)
   | 1,hx,hy=>cases hx; cases hy; exact iC (cU (SqL.of (k1G.lst h4)) (SqL.of (k2G.lst eF)) fun y hy=>.inl (jo y hy))
   | 2,hx,hy=>cases hx; cases hy; exact iC (cU (SqL.of (k1G.lst h5)) (SqL.of (k2G.lst eP)) fun y hy=>.inl (jo y hy))
   | 3,hx,hy=>cases hx; cases hy; exact eE rfl 1
   | j + 4,hx,hy=>simp at hx
end
end G1
namespace L2
open PySem PySem.Spec PyProof.Rows PySem.W PySem.W.X
def rC (p:Addr × Obj):Bool:=match p.2.data with | .fields vs=>!vs.isEmpty | _=>true
def dF (K:Frag):Frag:=K.filter rC
theorem av {a:Addr} {o:Obj}:∀{K:Frag},K.lookup a=some o→rC (a,o)=true→(dF K).lookup a=some o
 | [],e,_=>nomatch e
 | (b,u) :: K,e,k=>by
  by_cases q:a=b
  ·subst q;have e':some u=some o:=by rw [List.lookup_cons,beq_self_eq_true] at e; exact e
   cases e';have z:dF ((a,o) :: K)=(a,o) :: dF K:=List.filter_cons_of_pos k;rw [z,List.lookup_cons,beq_self_eq_true]
  ·have f:(a == b)=false:=beq_eq_false_iff_ne.mpr q;have e':K.lookup a=some o:=by rw [List.lookup_cons,f] at e; exact e
   have r:=av e' k;cases hk:rC (b,u) with
   | true=>
    have z:dF ((b,u) :: K)=(b,u) :: dF K:=List.filter_cons_of_pos hk;rw [z,List.lookup_cons,f]; exact r
   | false=>
    have z:dF ((b,u) :: K)=dF K:=List.filter_cons_of_neg (by rw [hk]; exact Bool.false_ne_true);rw [z]; exact r
theorem ao {K:Frag} {ns:Addr} {x:Str} {v:Option Value} (e:nsIn K ns x=some v):nsIn (dF K) ns x=some v:=by
 unfold nsIn at e ⊢
 split at e
 next cls d es ep sl l=>rw [av l rfl]; exact e
 next=>cases e
theorem aB {K:Frag} {cd:Value} {q:Str} (e:codeIn K cd q=true):codeIn (dF K) cd q=true:=by
 unfold codeIn at e ⊢
 split at e
 next c=>
  split at e
  next cls d vs sl l=>
   rw [av l (by
    show (!vs.isEmpty)=true;cases hv:vs.isEmpty with
    | false=>rfl
    | true=>
     rw [Array.isEmpty_iff] at hv;subst hv;exact e)]
   exact e
  next=>cases e
 next=>cases e
theorem km {a:Addr} {o:Obj}:∀{K:Frag},(dF K).lookup a=some o→(a,o)∈K
 | [],e=>nomatch e
 | (b,u) :: K,e=>by
  cases hk:rC (b,u) with
  | true=>
   have z:dF ((b,u) :: K)=(b,u) :: dF K:=List.filter_cons_of_pos hk;rw [z,List.lookup_cons] at e
   by_cases q:a=b
   ·subst q;rw [beq_self_eq_true] at e;cases e;exact List.mem_cons_self ..
   ·rw [beq_eq_false_iff_ne.mpr q] at e;exact List.mem_cons_of_mem _ (km e)
  | false=>
   have z:dF ((b,u) :: K)=dF K:=List.filter_cons_of_neg (by rw [hk]; exact Bool.false_ne_true);rw [z] at e;exact List.mem_cons_of_mem _ (km e)
theorem mn {h:Heap}:∀{K:Frag} {p:Addr × Obj},AllIn h K→p∈K→h.get? p.1=some p.2
 | [],_,_,m=>nomatch m
 | q :: K,p,A,m=>by
  rcases List.mem_cons.mp m with rfl | m
  ·exact A.1
  ·exact mn A.2 m
theorem vP {q:Program} {loose:List Str} {XP:(Str→Option Value)→Heap→Prop} {K:Params→Frag} {as:List Addr} {n t:Nat} {r:RowW} {d:DefRec} {kwd:List (Str × PySem.Expr)} {run:Value→List Value→Sem Value}
  (e:∀P,as=(K P).map (·.1)) (h:WalkO q loose XP (fun w h=>(dF (K w.params)).In h) r d kwd run):WalkX q loose XP (obsZ as) (valZ K n t) r d kwd run:=
 fun w s₀ s₁ mg mb G Y a o pm cd doc dV kV ho hd hcd hD hmg hg args vals as L hpre hlay hrd hwl hlo=>
  h w s₀ s₁ mg mb G (fun b u l=>L.keeps _ _ (mn (z_facts e Y).1 (km l))) a o pm cd doc dV kV ho hd hcd hD hmg hg args vals as hpre hlay hrd hwl hlo
end L2
namespace G1
open PySem PySem.Spec PyProof.Rows L2 GM
theorem aL {K:PySem.W.Frag} {f:Addr} {oc:Value} {od:Option Addr} {fd:FuncData} {sl:Array (Option Value)} (l:K.lookup f=some ⟨oc,od,.func fd,sl⟩):PySem.W.keepIn K (.ref f)=true:=by
 unfold PySem.W.keepIn;simp only [l]
theorem ym {K:PySem.W.Frag} {n x q:Str} {f c T:Addr} {fd:FuncData} {oc:Value} {od:Option Addr} {sl:Array (Option Value)} {ar:Arguments} {bo:List Stmt} {sc:Scope} {dV kV dc pm cd ct:Value} {an:Option Addr} (C:CodeN K n f c T fd) (l:K.lookup f=some ⟨oc,od,.func (PySem.W.fnOf x q ar bo sc dV kV dc pm an cd ct),sl⟩):cd = .ref c:=by
 obtain ⟨oc',od',sl',l'⟩:=C.l;rw [l] at l';injection l' with l'; injection l' with _ _ l' _; injection l' with l';rw [← C.hc,← l']
theorem gj {us:List Value} (h:us.length=1):∃a0,us=[a0]:=by
 match us,h with
 | [a0],_=>exact ⟨a0,rfl⟩
theorem ig {us:List Value} (h:us.length=2):∃a0 a1,us=[a0,a1]:=by
 match us,h with
 | [a0,a1],_=>exact ⟨a0,a1,rfl⟩
theorem pC {us:List Value} (h:us.length=3):∃a0 a1 a2,us=[a0,a1,a2]:=by
 match us,h with
 | [a0,a1,a2],_=>exact ⟨a0,a1,a2,rfl⟩
theorem AG {us:List Value} (h:us.length=4):∃a0 a1 a2 a3,us=[a0,a1,a2,a3]:=by
 match us,h with
 | [a0,a1,a2,a3],_=>exact ⟨a0,a1,a2,a3,rfl⟩
theorem xI {us:List Value} (h:us.length=5):∃a0 a1 a2 a3 a4,us=[a0,a1,a2,a3,a4]:=by
 match us,h with
 | [a0,a1,a2,a3,a4],_=>exact ⟨a0,a1,a2,a3,a4,rfl⟩
theorem zF {l:PySem.W.OpenLaw} {w:World} {K:PySem.W.Frag} {h:Heap} {mg:Str→Option Value} {fa:Addr} (X:K.In h) (G:h.Ns mainGlobals mg) (hfa:mg "law" = some (.ref fa))
  {f0:Addr} {od0 an0:Option Addr} {sl0:Array (Option Value)} {oc0 kV0 dc0 pm0 cd0 ct0:Value}
  {f1:Addr} {od1 an1:Option Addr} {sl1:Array (Option Value)} {oc1 kV1 dc1 pm1 cd1 ct1:Value}
  {f2:Addr} {od2 an2:Option Addr} {sl2:Array (Option Value)} {oc2 kV2 dc2 pm2 cd2 ct2:Value}
  {f3:Addr} {od3 an3:Option Addr} {sl3:Array (Option Value)} {oc3 kV3 dc3 pm3 cd3 ct3:Value}
  {cc3 T3:Addr} {fdT3:FuncData}
  {f4:Addr} {od4 an4:Option Addr} {sl4:Array (Option Value)} {oc4 kV4 dc4 pm4 cd4 ct4:Value}
  {f5:Addr} {od5 an5:Option Addr} {sl5:Array (Option Value)} {oc5 kV5 dc5 pm5 cd5 ct5:Value}
  {f6:Addr} {od6 an6:Option Addr} {sl6:Array (Option Value)} {oc6 kV6 dc6 pm6 cd6 ct6:Value}
  {f7:Addr} {od7 an7:Option Addr} {sl7:Array (Option Value)} {oc7 kV7 dc7 pm7 cd7 ct7:Value}
  {cc7 T7:Addr} {fdT7:FuncData}
  {f8:Addr} {od8 an8:Option Addr} {sl8:Array (Option Value)} {oc8 kV8 dc8 pm8 cd8 ct8:Value}
  {f9:Addr} {od9 an9:Option Addr} {sl9:Array (Option Value)} {oc9 kV9 dc9 pm9 cd9 ct9:Value}
  {f10:Addr} {od10 an10:Option Addr} {sl10:Array (Option Value)} {oc10 kV10 dc10 pm10 cd10 ct10:Value}
  {f11:Addr} {od11 an11:Option Addr} {sl11:Array (Option Value)} {oc11 kV11 dc11 pm11 cd11 ct11:Value}
  {f12:Addr} {od12 an12:Option Addr} {sl12:Array (Option Value)} {oc12 kV12 dc12 pm12 cd12 ct12:Value}
  {f13:Addr} {od13 an13:Option Addr} {sl13:Array (Option Value)} {oc13 kV13 dc13 pm13 cd13 ct13:Value}
  {f14:Addr} {od14 an14:Option Addr} {sl14:Array (Option Value)} {oc14 kV14 dc14 pm14 cd14 ct14:Value}
  {f15:Addr} {od15 an15:Option Addr} {sl15:Array (Option Value)} {oc15 kV15 dc15 pm15 cd15 ct15:Value}
  {f16:Addr} {od16 an16:Option Addr} {sl16:Array (Option Value)} {oc16 kV16 dc16 pm16 cd16 ct16:Value}
  {f17:Addr} {od17 an17:Option Addr} {sl17:Array (Option Value)} {oc17 kV17 dc17 pm17 cd17 ct17:Value}
  {f18:Addr} {od18 an18:Option Addr} {sl18:Array (Option Value)} {oc18 kV18 dc18 pm18 cd18 ct18:Value}
  {f19:Addr} {od19 an19:Option Addr} {sl19:Array (Option Value)} {oc19 kV19 dc19 pm19 cd19 ct19:Value}
  {f20:Addr} {od20 an20:Option Addr} {sl20:Array (Option Value)} {oc20 kV20 dc20 pm20 cd20 ct20:Value}
  {f21:Addr} {od21 an21:Option Addr} {sl21:Array (Option Value)} {oc21 kV21 dc21 pm21 cd21 ct21:Value}
  {f22:Addr} {od22 an22:Option Addr} {sl22:Array (Option Value)} {oc22 kV22 dc22 pm22 cd22 ct22:Value}
  {f23:Addr} {od23 an23:Option Addr} {sl23:Array (Option Value)} {oc23 kV23 dc23 pm23 cd23 ct23:Value}
  {f24:Addr} {od24 an24:Option Addr} {sl24:Array (Option Value)} {oc24 kV24 dc24 pm24 cd24 ct24:Value}
  {f25:Addr} {od25 an25:Option Addr} {sl25:Array (Option Value)} {oc25 kV25 dc25 pm25 cd25 ct25:Value}
  {f26:Addr} {od26 an26:Option Addr} {sl26:Array (Option Value)} {oc26 kV26 dc26 pm26 cd26 ct26:Value}
  {f27:Addr} {od27 an27:Option Addr} {sl27:Array (Option Value)} {oc27 kV27 dc27 pm27 cd27 ct27:Value}
  {f28:Addr} {od28 an28:Option Addr} {sl28:Array (Option Value)} {oc28 kV28 dc28 pm28 cd28 ct28:Value}
  {f29:Addr} {od29 an29:Option Addr} {sl29:Array (Option Value)} {oc29 kV29 dc29 pm29 cd29 ct29:Value}
  {f30:Addr} {od30 an30:Option Addr} {sl30:Array (Option Value)} {oc30 kV30 dc30 pm30 cd30 ct30:Value}
  {f31:Addr} {od31 an31:Option Addr} {sl31:Array (Option Value)} {oc31 kV31 dc31 pm31 cd31 ct31:Value}
  {f32:Addr} {od32 an32:Option Addr} {sl32:Array (Option Value)} {oc32 kV32 dc32 pm32 cd32 ct32:Value}
  {f33:Addr} {od33 an33:Option Addr} {sl33:Array (Option Value)} {oc33 kV33 dc33 pm33 cd33 ct33:Value}
  {f34:Addr} {od34 an34:Option Addr} {sl34:Array (Option Value)} {oc34 kV34 dc34 pm34 cd34 ct34:Value}
  {f35:Addr} {od35 an35:Option Addr} {sl35:Array (Option Value)} {oc35 kV35 dc35 pm35 cd35 ct35:Value}
  {f36:Addr} {od36 an36:Option Addr} {sl36:Array (Option Value)} {oc36 kV36 dc36 pm36 cd36 ct36:Value}
  {f37:Addr} {od37 an37:Option Addr} {sl37:Array (Option Value)} {oc37 kV37 dc37 pm37 cd37 ct37:Value}
  {f38:Addr} {od38 an38:Option Addr} {sl38:Array (Option Value)} {oc38 kV38 dc38 pm38 cd38 ct38:Value}
  {f39:Addr} {od39 an39:Option Addr} {sl39:Array (Option Value)} {oc39 kV39 dc39 pm39 cd39 ct39:Value}
  {f40:Addr} {od40 an40:Option Addr} {sl40:Array (Option Value)} {oc40 kV40 dc40 pm40 cd40 ct40:Value}
  {f41:Addr} {od41 an41:Option Addr} {sl41:Array (Option Value)} {oc41 kV41 dc41 pm41 cd41 ct41:Value}
  {f42:Addr} {od42 an42:Option Addr} {sl42:Array (Option Value)} {oc42 kV42 dc42 pm42 cd42 ct42:Value}
  {f43:Addr} {od43 an43:Option Addr} {sl43:Array (Option Value)} {oc43 kV43 dc43 pm43 cd43 ct43:Value}
  {f44:Addr} {od44 an44:Option Addr} {sl44:Array (Option Value)} {oc44 kV44 dc44 pm44 cd44 ct44:Value}
  {f45:Addr} {od45 an45:Option Addr} {sl45:Array (Option Value)} {oc45 kV45 dc45 pm45 cd45 ct45:Value}
  {f46:Addr} {od46 an46:Option Addr} {sl46:Array (Option Value)} {oc46 kV46 dc46 pm46 cd46 ct46:Value}
  {tkA tkB tkC tkD tkE:Tok}
  {C0 C1 C2 C3 C4 C5 C6 C7 C8 C9 C10 C11 C12 C13 C14:Addr}
  (CN3:CodeN K "is_name" f3 cc3 T3 fdT3)
  (CN7:CodeN K "are_signs" f7 cc7 T7 fdT7)
  (a0:PySem.W.nsIn K mainGlobals "is_whole" = some (some (.ref f0)))
  (l0:K.lookup f0=some ⟨oc0,od0,.func (PySem.W.fnOf "is_whole" "is_whole" (aD jg) (aC jg) (af jg) .none kV0 dc0 pm0 an0 cd0 ct0),sl0⟩)
  (c0:PySem.W.codeIn K cd0 "is_whole" = true)
  (a1:PySem.W.nsIn K mainGlobals "is_whole_within" = some (some (.ref f1)))
  (l1:K.lookup f1=some ⟨oc1,od1,.func (PySem.W.fnOf "is_whole_within" "is_whole_within" (aD gW) (aC gW) (af gW) .none kV1 dc1 pm1 an1 cd1 ct1),sl1⟩)
  (c1:PySem.W.codeIn K cd1 "is_whole_within" = true)
  (a2:PySem.W.nsIn K mainGlobals "is_fraction" = some (some (.ref f2)))
  (l2:K.lookup f2=some ⟨oc2,od2,.func (PySem.W.fnOf "is_fraction" "is_fraction" (aD sC) (aC sC) (af sC) .none kV2 dc2 pm2 an2 cd2 ct2),sl2⟩)
  (c2:PySem.W.codeIn K cd2 "is_fraction" = true)
  (a3:PySem.W.nsIn K mainGlobals "is_name" = some (some (.ref f3)))
  (l3:K.lookup f3=some ⟨oc3,od3,.func (PySem.W.fnOf "is_name" "is_name" (aD gk) (aC gk) (af gk) .none kV3 dc3 pm3 an3 cd3 ct3),sl3⟩)
  (c3:PySem.W.codeIn K cd3 "is_name" = true)
  (a4:PySem.W.nsIn K mainGlobals "common_divisor" = some (some (.ref f4)))
  (l4:K.lookup f4=some ⟨oc4,od4,.func (PySem.W.fnOf "common_divisor" "common_divisor" (aD sD) (aC sD) (af sD) .none kV4 dc4 pm4 an4 cd4 ct4),sl4⟩)
  (c4:PySem.W.codeIn K cd4 "common_divisor" = true)
  (a5:PySem.W.nsIn K mainGlobals "is_letter" = some (some (.ref f5)))
  (l5:K.lookup f5=some ⟨oc5,od5,.func (PySem.W.fnOf "is_letter" "is_letter" (aD gX) (aC gX) (af gX) .none kV5 dc5 pm5 an5 cd5 ct5),sl5⟩)
  (c5:PySem.W.codeIn K cd5 "is_letter" = true)
  (a6:PySem.W.nsIn K mainGlobals "look_at_tongue" = some (some (.ref f6)))
  (l6:K.lookup f6=some ⟨oc6,od6,.func (PySem.W.fnOf "look_at_tongue" "look_at_tongue" (aD jY) (aC jY) (af jY) .none kV6 dc6 pm6 an6 cd6 ct6),sl6⟩)
  (c6:PySem.W.codeIn K cd6 "look_at_tongue" = true)
  (a7:PySem.W.nsIn K mainGlobals "are_signs" = some (some (.ref f7)))
  (l7:K.lookup f7=some ⟨oc7,od7,.func (PySem.W.fnOf "are_signs" "are_signs" (aD du) (aC du) (af du) .none kV7 dc7 pm7 an7 cd7 ct7),sl7⟩)
  (c7:PySem.W.codeIn K cd7 "are_signs" = true)
  (a8:PySem.W.nsIn K mainGlobals "is_sign_row" = some (some (.ref f8)))
  (l8:K.lookup f8=some ⟨oc8,od8,.func (PySem.W.fnOf "is_sign_row" "is_sign_row" (aD sE) (aC sE) (af sE) .none kV8 dc8 pm8 an8 cd8 ct8),sl8⟩)
  (c8:PySem.W.codeIn K cd8 "is_sign_row" = true)
  (a9:PySem.W.nsIn K mainGlobals "is_above_nought" = some (some (.ref f9)))
  (l9:K.lookup f9=some ⟨oc9,od9,.func (PySem.W.fnOf "is_above_nought" "is_above_nought" (aD jh) (aC jh) (af jh) .none kV9 dc9 pm9 an9 cd9 ct9),sl9⟩)
  (c9:PySem.W.codeIn K cd9 "is_above_nought" = true)
  (a10:PySem.W.nsIn K mainGlobals "are_unlike_texts_of" = some (some (.ref f10)))
  (l10:K.lookup f10=some ⟨oc10,od10,.func (PySem.W.fnOf "are_unlike_texts_of" "are_unlike_texts_of" (aD gZ) (aC gZ) (af gZ) .none kV10 dc10 pm10 an10 cd10 ct10),sl10⟩)
  (c10:PySem.W.codeIn K cd10 "are_unlike_texts_of" = true)
  (a11:PySem.W.nsIn K mainGlobals "signs_of" = some (some (.ref f11)))
  (l11:K.lookup f11=some ⟨oc11,od11,.func (PySem.W.fnOf "signs_of" "signs_of" (aD dZ) (aC dZ) (af dZ) .none kV11 dc11 pm11 an11 cd11 ct11),sl11⟩)
  (c11:PySem.W.codeIn K cd11 "signs_of" = true)
  (a12:PySem.W.nsIn K mainGlobals "_law_cell" = some (some (.ref f12)))
  (l12:K.lookup f12=some ⟨oc12,od12,.func (PySem.W.fnOf "_law_cell" "_law_cell" (aD lO) (aC lO) (af lO) .none kV12 dc12 pm12 an12 cd12 ct12),sl12⟩)
  (c12:PySem.W.codeIn K cd12 "_law_cell" = true)
  (a13:PySem.W.nsIn K mainGlobals "_law_source" = some (some (.ref f13)))
  (l13:K.lookup f13=some ⟨oc13,od13,.func (PySem.W.fnOf "_law_source" "_law_source" (aD g6) (aC g6) (af g6) .none kV13 dc13 pm13 an13 cd13 ct13),sl13⟩)
  (c13:PySem.W.codeIn K cd13 "_law_source" = true)
  (a14:PySem.W.nsIn K mainGlobals "_law_draw" = some (some (.ref f14)))
  (l14:K.lookup f14=some ⟨oc14,od14,.func (PySem.W.fnOf "_law_draw" "_law_draw" (aD lP) (aC lP) (af lP) .none kV14 dc14 pm14 an14 cd14 ct14),sl14⟩)
  (c14:PySem.W.codeIn K cd14 "_law_draw" = true)
  (a15:PySem.W.nsIn K mainGlobals "_law_lowest" = some (some (.ref f15)))
  (l15:K.lookup f15=some ⟨oc15,od15,.func (PySem.W.fnOf "_law_lowest" "_law_lowest" (aD g7) (aC g7) (af g7) .none kV15 dc15 pm15 an15 cd15 ct15),sl15⟩)
  (c15:PySem.W.codeIn K cd15 "_law_lowest" = true)
  (a16:PySem.W.nsIn K mainGlobals "_law_price" = some (some (.ref f16)))
  (l16:K.lookup f16=some ⟨oc16,od16,.func (PySem.W.fnOf "_law_price" "_law_price" (aD ji) (aC ji) (af ji) .none kV16 dc16 pm16 an16 cd16 ct16),sl16⟩)
  (c16:PySem.W.codeIn K cd16 "_law_price" = true)
  (a17:PySem.W.nsIn K mainGlobals "_law_signs" = some (some (.ref f17)))
  (l17:K.lookup f17=some ⟨oc17,od17,.func (PySem.W.fnOf "_law_signs" "_law_signs" (aD g9) (aC g9) (af g9) .none kV17 dc17 pm17 an17 cd17 ct17),sl17⟩)
  (c17:PySem.W.codeIn K cd17 "_law_signs" = true)
  (a18:PySem.W.nsIn K mainGlobals "_law_tongue" = some (some (.ref f18)))
  (l18:K.lookup f18=some ⟨oc18,od18,.func (PySem.W.fnOf "_law_tongue" "_law_tongue" (aD dJ) (aC dJ) (af dJ) .none kV18 dc18 pm18 an18 cd18 ct18),sl18⟩)
  (c18:PySem.W.codeIn K cd18 "_law_tongue" = true)
  (a19:PySem.W.nsIn K mainGlobals "_law_copy" = some (some (.ref f19)))
  (l19:K.lookup f19=some ⟨oc19,od19,.func (PySem.W.fnOf "_law_copy" "_law_copy" (aD lQ) (aC lQ) (af lQ) .none kV19 dc19 pm19 an19 cd19 ct19),sl19⟩)
  (c19:PySem.W.codeIn K cd19 "_law_copy" = true)
  (a20:PySem.W.nsIn K mainGlobals "_law_comes" = some (some (.ref f20)))
  (l20:K.lookup f20=some ⟨oc20,od20,.func (PySem.W.fnOf "_law_comes" "_law_comes" (aD jj) (aC jj) (af jj) .none kV20 dc20 pm20 an20 cd20 ct20),sl20⟩)
  (c20:PySem.W.codeIn K cd20 "_law_comes" = true)
  (a21:PySem.W.nsIn K mainGlobals "_law_stands" = some (some (.ref f21)))
  (l21:K.lookup f21=some ⟨oc21,od21,.func (PySem.W.fnOf "_law_stands" "_law_stands" (aD ef) (aC ef) (af ef) .none kV21 dc21 pm21 an21 cd21 ct21),sl21⟩)
  (c21:PySem.W.codeIn K cd21 "_law_stands" = true)
  (a22:PySem.W.nsIn K mainGlobals "_law_is_word" = some (some (.ref f22)))
  (l22:K.lookup f22=some ⟨oc22,od22,.func (PySem.W.fnOf "_law_is_word" "_law_is_word" (aD eh) (aC eh) (af eh) .none kV22 dc22 pm22 an22 cd22 ct22),sl22⟩)
  (c22:PySem.W.codeIn K cd22 "_law_is_word" = true)
  (a23:PySem.W.nsIn K mainGlobals "_law_words" = some (some (.ref f23)))
  (l23:K.lookup f23=some ⟨oc23,od23,.func (PySem.W.fnOf "_law_words" "_law_words" (aD eI) (aC eI) (af eI) .none kV23 dc23 pm23 an23 cd23 ct23),sl23⟩)
  (c23:PySem.W.codeIn K cd23 "_law_words" = true)
  (a24:PySem.W.nsIn K mainGlobals "tree_of" = some (some (.ref f24)))
  (l24:K.lookup f24=some ⟨oc24,od24,.func (PySem.W.fnOf "tree_of" "tree_of" (aD hJ) (aC hJ) (af hJ) .none kV24 dc24 pm24 an24 cd24 ct24),sl24⟩)
  (c24:PySem.W.codeIn K cd24 "tree_of" = true)
  (a25:PySem.W.nsIn K mainGlobals "branches_of" = some (some (.ref f25)))
  (l25:K.lookup f25=some ⟨oc25,od25,.func (PySem.W.fnOf "branches_of" "branches_of" (aD cQ) (aC cQ) (af cQ) .none kV25 dc25 pm25 an25 cd25 ct25),sl25⟩)
  (c25:PySem.W.codeIn K cd25 "branches_of" = true)
  (a26:PySem.W.nsIn K mainGlobals "node_of" = some (some (.ref f26)))
  (l26:K.lookup f26=some ⟨oc26,od26,.func (PySem.W.fnOf "node_of" "node_of" (aD jZ) (aC jZ) (af jZ) .none kV26 dc26 pm26 an26 cd26 ct26),sl26⟩)
  (c26:PySem.W.codeIn K cd26 "node_of" = true)
  (a27:PySem.W.nsIn K mainGlobals "_law_clashes" = some (some (.ref f27)))
  (l27:K.lookup f27=some ⟨oc27,od27,.func (PySem.W.fnOf "_law_clashes" "_law_clashes" (aD eA) (aC eA) (af eA) .none kV27 dc27 pm27 an27 cd27 ct27),sl27⟩)
  (c27:PySem.W.codeIn K cd27 "_law_clashes" = true)
  (a28:PySem.W.nsIn K mainGlobals "_law_world" = some (some (.ref f28)))
  (l28:K.lookup f28=some ⟨oc28,od28,.func (PySem.W.fnOf "_law_world" "_law_world" (aD iz) (aC iz) (af iz) .none kV28 dc28 pm28 an28 cd28 ct28),sl28⟩)
  (c28:PySem.W.codeIn K cd28 "_law_world" = true)
  (a29:PySem.W.nsIn K mainGlobals "stands" = some (some (.ref f29)))
  (l29:K.lookup f29=some ⟨oc29,od29,.func (PySem.W.fnOf "stands" "stands" (aD hU) (aC hU) (af hU) .none kV29 dc29 pm29 an29 cd29 ct29),sl29⟩)
  (c29:PySem.W.codeIn K cd29 "stands" = true)
  (a30:PySem.W.nsIn K mainGlobals "stands_as_word" = some (some (.ref f30)))
  (l30:K.lookup f30=some ⟨oc30,od30,.func (PySem.W.fnOf "stands_as_word" "stands_as_word" (aD hV) (aC hV) (af hV) .none kV30 dc30 pm30 an30 cd30 ct30),sl30⟩)
  (c30:PySem.W.codeIn K cd30 "stands_as_word" = true)
  (a31:PySem.W.nsIn K mainGlobals "follows" = some (some (.ref f31)))
  (l31:K.lookup f31=some ⟨oc31,od31,.func (PySem.W.fnOf "follows" "follows" (aD eZ) (aC eZ) (af eZ) .none kV31 dc31 pm31 an31 cd31 ct31),sl31⟩)
  (c31:PySem.W.codeIn K cd31 "follows" = true)
  (a32:PySem.W.nsIn K mainGlobals "lasts_of" = some (some (.ref f32)))
  (l32:K.lookup f32=some ⟨oc32,od32,.func (PySem.W.fnOf "lasts_of" "lasts_of" (aD iA) (aC iA) (af iA) .none kV32 dc32 pm32 an32 cd32 ct32),sl32⟩)
  (c32:PySem.W.codeIn K cd32 "lasts_of" = true)
  (a33:PySem.W.nsIn K mainGlobals "book_of" = some (some (.ref f33)))
  (l33:K.lookup f33=some ⟨oc33,od33,.func (PySem.W.fnOf "book_of" "book_of" (aD fK) (aC fK) (af fK) .none kV33 dc33 pm33 an33 cd33 ct33),sl33⟩)
  (c33:PySem.W.codeIn K cd33 "book_of" = true)
  (a34:PySem.W.nsIn K mainGlobals "gather_words" = some (some (.ref f34)))
  (l34:K.lookup f34=some ⟨oc34,od34,.func (PySem.W.fnOf "gather_words" "gather_words" (aD eJ) (aC eJ) (af eJ) .none kV34 dc34 pm34 an34 cd34 ct34),sl34⟩)
  (c34:PySem.W.codeIn K cd34 "gather_words" = true)
  (a35:PySem.W.nsIn K mainGlobals "look_at_branch" = some (some (.ref f35)))
  (l35:K.lookup f35=some ⟨oc35,od35,.func (PySem.W.fnOf "look_at_branch" "look_at_branch" (aD jk) (aC jk) (af jk) .none kV35 dc35 pm35 an35 cd35 ct35),sl35⟩)
  (c35:PySem.W.codeIn K cd35 "look_at_branch" = true)
  (a36:PySem.W.nsIn K mainGlobals "put_word" = some (some (.ref f36)))
  (l36:K.lookup f36=some ⟨oc36,od36,.func (PySem.W.fnOf "put_word" "put_word" (aD lR) (aC lR) (af lR) .none kV36 dc36 pm36 an36 cd36 ct36),sl36⟩)
  (c36:PySem.W.codeIn K cd36 "put_word" = true)
  (a37:PySem.W.nsIn K mainGlobals "_law_grown" = some (some (.ref f37)))
  (l37:K.lookup f37=some ⟨oc37,od37,.func (PySem.W.fnOf "_law_grown" "_law_grown" (aD eT) (aC eT) (af eT) .none kV37 dc37 pm37 an37 cd37 ct37),sl37⟩)
  (c37:PySem.W.codeIn K cd37 "_law_grown" = true)
  (a38:PySem.W.nsIn K mainGlobals "_law_tree" = some (some (.ref f38)))
  (l38:K.lookup f38=some ⟨oc38,od38,.func (PySem.W.fnOf "_law_tree" "_law_tree" (aD js) (aC js) (af js) .none kV38 dc38 pm38 an38 cd38 ct38),sl38⟩)
  (c38:PySem.W.codeIn K cd38 "_law_tree" = true)
  (a39:PySem.W.nsIn K mainGlobals "_law_copied" = some (some (.ref f39)))
  (l39:K.lookup f39=some ⟨oc39,od39,.func (PySem.W.fnOf "_law_copied" "_law_copied" (aD dy) (aC dy) (af dy) .none kV39 dc39 pm39 an39 cd39 ct39),sl39⟩)
  (c39:PySem.W.codeIn K cd39 "_law_copied" = true)
  (a40:PySem.W.nsIn K mainGlobals "_law_is_refusal" = some (some (.ref f40)))
  (l40:K.lookup f40=some ⟨oc40,od40,.func (PySem.W.fnOf "_law_is_refusal" "_law_is_refusal" (aD fb) (aC fb) (af fb) .none kV40 dc40 pm40 an40 cd40 ct40),sl40⟩)
  (c40:PySem.W.codeIn K cd40 "_law_is_refusal" = true)
  (a41:PySem.W.nsIn K mainGlobals "_law_turned" = some (some (.ref f41)))
  (l41:K.lookup f41=some ⟨oc41,od41,.func (PySem.W.fnOf "_law_turned" "_law_turned" (aD eK) (aC eK) (af eK) .none kV41 dc41 pm41 an41 cd41 ct41),sl41⟩)
  (c41:PySem.W.codeIn K cd41 "_law_turned" = true)
  (a42:PySem.W.nsIn K mainGlobals "_law_bent_here" = some (some (.ref f42)))
  (l42:K.lookup f42=some ⟨oc42,od42,.func (PySem.W.fnOf "_law_bent_here" "_law_bent_here" (aD dR) (aC dR) (af dR) .none kV42 dc42 pm42 an42 cd42 ct42),sl42⟩)
  (c42:PySem.W.codeIn K cd42 "_law_bent_here" = true)
  (a43:PySem.W.nsIn K mainGlobals "_law_bent" = some (some (.ref f43)))
  (l43:K.lookup f43=some ⟨oc43,od43,.func (PySem.W.fnOf "_law_bent" "_law_bent" (aD jt) (aC jt) (af jt) .none kV43 dc43 pm43 an43 cd43 ct43),sl43⟩)
  (c43:PySem.W.codeIn K cd43 "_law_bent" = true)
  (a44:PySem.W.nsIn K mainGlobals "_law_reads" = some (some (.ref f44)))
  (l44:K.lookup f44=some ⟨oc44,od44,.func (PySem.W.fnOf "_law_reads" "_law_reads" (aD fM) (aC fM) (af fM) .none kV44 dc44 pm44 an44 cd44 ct44),sl44⟩)
  (c44:PySem.W.codeIn K cd44 "_law_reads" = true)
  (a45:PySem.W.nsIn K mainGlobals "_law_right" = some (some (.ref f45)))
  (l45:K.lookup f45=some ⟨oc45,od45,.func (PySem.W.fnOf "_law_right" "_law_right" (aD iB) (aC iB) (af iB) .none kV45 dc45 pm45 an45 cd45 ct45),sl45⟩)
  (c45:PySem.W.codeIn K cd45 "_law_right" = true)
  (a46:PySem.W.nsIn K mainGlobals "law" = some (some (.ref f46)))
  (l46:K.lookup f46=some ⟨oc46,od46,.func (PySem.W.fnOf "law" "law" (aD kE) (aC kE) (af kE) .none kV46 dc46 pm46 an46 cd46 ct46),sl46⟩)
  (c46:PySem.W.codeIn K cd46 "law" = true)
  (aLe:PySem.W.nsIn K mainGlobals "LETTERS" = some (some (.str letters tkA)))
  (aLo:PySem.W.nsIn K mainGlobals "LONGEST_NAME" = some (some (.int 8 tkB)))
  (aFe:PySem.W.nsIn K mainGlobals "FEWEST_SIGNS" = some (some (.int 2 tkC)))
  (aMo:PySem.W.nsIn K mainGlobals "MOST_SIGNS" = some (some (.int 6 tkD)))
  (aLw:PySem.W.nsIn K mainGlobals "LONGEST_WORD" = some (some (.int 8 tkE)))
  (m0:PySem.W.nsIn K mainGlobals "DearError" = some (some (.ref C0)))
  (m1:PySem.W.nsIn K mainGlobals "NoTree" = some (some (.ref C1)))
  (m2:PySem.W.nsIn K mainGlobals "NoBook" = some (some (.ref C2)))
  (m3:PySem.W.nsIn K mainGlobals "NoTongue" = some (some (.ref C3)))
  (m4:PySem.W.nsIn K mainGlobals "NoWants" = some (some (.ref C4)))
  (m5:PySem.W.nsIn K mainGlobals "NoTurn" = some (some (.ref C5)))
  (m6:PySem.W.nsIn K mainGlobals "TooMany" = some (some (.ref C6)))
  (m7:PySem.W.nsIn K mainGlobals "NoUndo" = some (some (.ref C7)))
  (m8:PySem.W.nsIn K mainGlobals "NoCount" = some (some (.ref C8)))
  (m9:PySem.W.nsIn K mainGlobals "NoNumber" = some (some (.ref C9)))
  (m10:PySem.W.nsIn K mainGlobals "NoRow" = some (some (.ref C10)))
  (m11:PySem.W.nsIn K mainGlobals "NoText" = some (some (.ref C11)))
  (m12:PySem.W.nsIn K mainGlobals "Unknown" = some (some (.ref C12)))
  (m13:PySem.W.nsIn K mainGlobals "NoThing" = some (some (.ref C13)))
  (m14:PySem.W.nsIn K mainGlobals "BadSign" = some (some (.ref C14)))
  (q1:PySem.W.findIn K (.ref C1) "__getattribute__" = some (some (.builtin "BaseException.__getattribute__")))
  (q0:PySem.W.findIn K (.ref C1) "__getattr__" = some none)
  (q2:PySem.W.hasDictIn K C1=true)
  (q3:PySem.W.findIn K (.ref C1) "__class__" = some (some (.builtin "object.__class__")))
  (q6:PySem.W.mroIn K C1 (.type "object")=some true)
  (qb:PySem.W.mroIn K C1 (.type "BaseException")=some true)
  (q7:PySem.W.mroIn K C1 (.ref C1)=some true)
  (q4:PySem.W.specialIn K (.builtin "object.__class__") "__get__" = some (some (.builtin "getset_descriptor.__get__")))
  (q5:PySem.W.takesIn K (.builtin "object.__class__")=some true)
  (q8:PySem.W.mroIn K C1 (.type "ValueError")=some true)
  (q9:PySem.W.mroIn K C1 (.ref C0)=some true)
  (r1:PySem.W.instIn K (.ref C0) (.type "tuple")=some false)
  (r2:PySem.W.hasDictIn K C0=true)
  (r3:PySem.W.mroIn K C0 (.type "BaseException")=some true)
  (n2:PySem.W.mroIn K C1 (.ref C2)=some false)
  (d2:PySem.W.hasDictIn K C2=true)
  (t2:PySem.W.typeIn K (.ref C2)=some (.type "type"))
  (n3:PySem.W.mroIn K C1 (.ref C3)=some false)
  (d3:PySem.W.hasDictIn K C3=true)
  (t3:PySem.W.typeIn K (.ref C3)=some (.type "type"))
  (n4:PySem.W.mroIn K C1 (.ref C4)=some false)
  (d4:PySem.W.hasDictIn K C4=true)
  (t4:PySem.W.typeIn K (.ref C4)=some (.type "type"))
  (n5:PySem.W.mroIn K C1 (.ref C5)=some false)
  (d5:PySem.W.hasDictIn K C5=true)
  (t5:PySem.W.typeIn K (.ref C5)=some (.type "type"))
  (n6:PySem.W.mroIn K C1 (.ref C6)=some false)
  (d6:PySem.W.hasDictIn K C6=true)
  (t6:PySem.W.typeIn K (.ref C6)=some (.type "type"))
  (n7:PySem.W.mroIn K C1 (.ref C7)=some false)
  (d7:PySem.W.hasDictIn K C7=true)
  (t7:PySem.W.typeIn K (.ref C7)=some (.type "type"))
  (n8:PySem.W.mroIn K C1 (.ref C8)=some false)
  (d8:PySem.W.hasDictIn K C8=true)
  (t8:PySem.W.typeIn K (.ref C8)=some (.type "type"))
  (n9:PySem.W.mroIn K C1 (.ref C9)=some false)
  (d9:PySem.W.hasDictIn K C9=true)
  (t9:PySem.W.typeIn K (.ref C9)=some (.type "type"))
  (n10:PySem.W.mroIn K C1 (.ref C10)=some false)
  (d10:PySem.W.hasDictIn K C10=true)
  (t10:PySem.W.typeIn K (.ref C10)=some (.type "type"))
  (n11:PySem.W.mroIn K C1 (.ref C11)=some false)
  (d11:PySem.W.hasDictIn K C11=true)
  (t11:PySem.W.typeIn K (.ref C11)=some (.type "type"))
  (n12:PySem.W.mroIn K C1 (.ref C12)=some false)
  (d12:PySem.W.hasDictIn K C12=true)
  (t12:PySem.W.typeIn K (.ref C12)=some (.type "type"))
  (n13:PySem.W.mroIn K C1 (.ref C13)=some false)
  (d13:PySem.W.hasDictIn K C13=true)
  (t13:PySem.W.typeIn K (.ref C13)=some (.type "type"))
  (n14:PySem.W.mroIn K C1 (.ref C14)=some false)
  (d14:PySem.W.hasDictIn K C14=true)
  (t14:PySem.W.typeIn K (.ref C14)=some (.type "type"))
  (excB:PySem.W.excIn K C1 bmV "ValueError.__new__" = true)
  (zve:PySem.W.nsIn K mainGlobals "ValueError" = some none)
  (z_isi:PySem.W.nsIn K mainGlobals "isinstance" = some none)
  (z_int:PySem.W.nsIn K mainGlobals "int" = some none)
  (z_bool:PySem.W.nsIn K mainGlobals "bool" = some none)
  (z_tuple:PySem.W.nsIn K mainGlobals "tuple" = some none)
  (z_abs:PySem.W.nsIn K mainGlobals "abs" = some none)
  (z_len:PySem.W.nsIn K mainGlobals "len" = some none)
  (z_enum:PySem.W.nsIn K mainGlobals "enumerate" = some none)
  (z_str:PySem.W.nsIn K mainGlobals "str" = some none)
  (z_range:PySem.W.nsIn K mainGlobals "range" = some none)
  (z_max:PySem.W.nsIn K mainGlobals "max" = some none)
  (z_all:PySem.W.nsIn K mainGlobals "all" = some none)
  (z_set:PySem.W.nsIn K mainGlobals "set" = some none)
  (z_list:PySem.W.nsIn K mainGlobals "list" = some none)
  (z_min:PySem.W.nsIn K mainGlobals "min" = some none)
  (z_sum:PySem.W.nsIn K mainGlobals "sum" = some none)
  (z_dict:PySem.W.nsIn K mainGlobals "dict" = some none)
  (z_any:PySem.W.nsIn K mainGlobals "any" = some none)
  (z_reversed:PySem.W.nsIn K mainGlobals "reversed" = some none)
  (z_sorted:PySem.W.nsIn K mainGlobals "sorted" = some none) :
  ∃fd:FuncData,(∀(s:Shared) (v:Value),BindsTo s fd ⟨[v],[]⟩ [("_law_script",v)])∧∀base:Heap,K.In base→base.Ns mainGlobals mg→kr mg base→FnOk l.prog w K mg base (CXE l.prog w) 28 fa fd ["_law_script"] (pB (iy K "is_name") (iy K "are_signs") K):=by
 have e:=hfa.symm.trans (PySem.W.mg_of X G a46);cases e;have B:Bl mg:=⟨PySem.W.mg_none_of X G z_isi,PySem.W.mg_none_of X G z_int,PySem.W.mg_none_of X G z_bool,PySem.W.mg_none_of X G z_tuple,PySem.W.mg_none_of X G z_abs,PySem.W.mg_none_of X G z_len,PySem.W.mg_none_of X G z_enum,PySem.W.mg_none_of X G z_str,PySem.W.mg_none_of X G z_range,PySem.W.mg_none_of X G z_max,PySem.W.mg_none_of X G z_all,PySem.W.mg_none_of X G z_set,PySem.W.mg_none_of X G z_list,PySem.W.mg_none_of X G z_min,PySem.W.mg_none_of X G z_sum,PySem.W.mg_none_of X G z_dict,PySem.W.mg_none_of X G z_any,PySem.W.mg_none_of X G z_reversed,PySem.W.mg_none_of X G z_sorted⟩;have hcd3:=ym CN3 l3;subst hcd3;rw [CN3.tb];have hcd7:=ym CN7 l7;subst hcd7;rw [CN7.tb];have k0:=aL l0;have F0:=aK (st:=jg) l0 c0 k0;have k1:=aL l1;have F1:=aK (st:=gW) l1 c1 k1;have k2:=aL l2;have F2:=aK (st:=sC) l2 c2 k2;have k3:=aL l3;have F3:=aK (st:=gk) l3 c3 k3;have k4:=aL l4;have F4:=aK (st:=sD) l4 c4 k4;have k5:=aL l5;have F5:=aK (st:=gX) l5 c5 k5;have k6:=aL l6;have F6:=aK (st:=jY) l6 c6 k6;have k7:=aL l7;have F7:=aK (st:=du) l7 c7 k7;have k8:=aL l8;have F8:=aK (st:=sE) l8 c8 k8;have k9:=aL l9;have F9:=aK (st:=jh) l9 c9 k9;have k10:=aL l10;have F10:=aK (st:=gZ) l10 c10 k10;have k11:=aL l11;have F11:=aK (st:=dZ) l11 c11 k11;have k12:=aL l12;have F12:=aK (st:=lO) l12 c12 k12;have k13:=aL l13;have F13:=aK (st:=g6) l13 c13 k13;have k14:=aL l14;have F14:=aK (st:=lP) l14 c14 k14;have k15:=aL l15;have F15:=aK (st:=g7) l15 c15 k15;have k16:=aL l16;have F16:=aK (st:=ji) l16 c16 k16;have k17:=aL l17;have F17:=aK (st:=g9) l17 c17 k17;have k18:=aL l18;have F18:=aK (st:=dJ) l18 c18 k18;have k19:=aL l19;have F19:=aK (st:=lQ) l19 c19 k19;have k20:=aL l20;have F20:=aK (st:=jj) l20 c20 k20;have k21:=aL l21;have F21:=aK (st:=ef) l21 c21 k21;have k22:=aL l22;have F22:=aK (st:=eh) l22 c22 k22;have k23:=aL l23;have F23:=aK (st:=eI) l23 c23 k23;have k24:=aL l24;have F24:=aK (st:=hJ) l24 c24 k24;have k25:=aL l25;have F25:=aK (st:=cQ) l25 c25 k25;have k26:=aL l26;have F26:=aK (st:=jZ) l26 c26 k26;have k27:=aL l27;have F27:=aK (st:=eA) l27 c27 k27;have k28:=aL l28;have F28:=aK (st:=iz) l28 c28 k28;have k29:=aL l29;have F29:=aK (st:=hU) l29 c29 k29;have k30:=aL l30;have F30:=aK (st:=hV) l30 c30 k30;have k31:=aL l31;have F31:=aK (st:=eZ) l31 c31 k31;have k32:=aL l32;have F32:=aK (st:=iA) l32 c32 k32;have k33:=aL l33;have F33:=aK (st:=fK) l33 c33 k33;have k34:=aL l34;have F34:=aK (st:=eJ) l34 c34 k34;have k35:=aL l35;have F35:=aK (st:=jk) l35 c35 k35;have k36:=aL l36;have F36:=aK (st:=lR) l36 c36 k36;have k37:=aL l37;have F37:=aK (st:=eT) l37 c37 k37;have k38:=aL l38;have F38:=aK (st:=js) l38 c38 k38;have k39:=aL l39;have F39:=aK (st:=dy) l39 c39 k39;have k40:=aL l40;have F40:=aK (st:=fb) l40 c40 k40;have k41:=aL l41;have F41:=aK (st:=eK) l41 c41 k41;have k42:=aL l42;have F42:=aK (st:=dR) l42 c42 k42;have k43:=aL l43;have F43:=aK (st:=jt) l43 c43 k43;have k44:=aL l44;have F44:=aK (st:=fM) l44 c44 k44;have k45:=aL l45;have F45:=aK (st:=iB) l45 c45 k45;have k46:=aL l46;have F46:=aK (st:=kE) l46 c46 k46;have b0:=F0.binds (ps:=["thing"]) fun _ _ _ _ _ _ us hl=>by obtain ⟨_,rfl⟩:=gj hl; rfl
 have b1:=F1.binds (ps:=["thing","least","most"]) fun _ _ _ _ _ _ us hl=>by obtain ⟨_,_,_,rfl⟩:=pC hl; rfl
 have b2:=F2.binds (ps:=["thing"]) fun _ _ _ _ _ _ us hl=>by obtain ⟨_,rfl⟩:=gj hl; rfl
 have b3:=F3.binds (ps:=["thing"]) fun _ _ _ _ _ _ us hl=>by obtain ⟨_,rfl⟩:=gj hl; rfl
 have b4:=F4.binds (ps:=["one","other"]) fun _ _ _ _ _ _ us hl=>by obtain ⟨_,_,rfl⟩:=ig hl; rfl
 have b5:=F5.binds (ps:=["thing"]) fun _ _ _ _ _ _ us hl=>by obtain ⟨_,rfl⟩:=gj hl; rfl
 have b6:=F6.binds (ps:=["thing"]) fun _ _ _ _ _ _ us hl=>by obtain ⟨_,rfl⟩:=gj hl; rfl
 have b7:=F7.binds (ps:=["thing"]) fun _ _ _ _ _ _ us hl=>by obtain ⟨_,rfl⟩:=gj hl; rfl
 have b8:=F8.binds (ps:=["thing"]) fun _ _ _ _ _ _ us hl=>by obtain ⟨_,rfl⟩:=gj hl; rfl
 have b9:=F9.binds (ps:=["thing"]) fun _ _ _ _ _ _ us hl=>by obtain ⟨_,rfl⟩:=gj hl; rfl
 have b10:=F10.binds (ps:=["choices","thing"]) fun _ _ _ _ _ _ us hl=>by obtain ⟨_,_,rfl⟩:=ig hl; rfl
 have b11:=F11.binds (ps:=["tongue"]) fun _ _ _ _ _ _ us hl=>by obtain ⟨_,rfl⟩:=gj hl; rfl
 have b12:=F12.binds (ps:=["_law_script","_law_k"]) fun _ _ _ _ _ _ us hl=>by obtain ⟨_,_,rfl⟩:=ig hl; rfl
 have b13:=F13.binds (ps:=["_law_cell_here","_law_k"]) fun _ _ _ _ _ _ us hl=>by obtain ⟨_,_,rfl⟩:=ig hl; rfl
 have b14:=F14.binds (ps:=["_law_source_here","_law_many"]) fun _ _ _ _ _ _ us hl=>by obtain ⟨_,_,rfl⟩:=ig hl; rfl
 have b15:=F15.binds (ps:=["_law_top","_law_bottom"]) fun _ _ _ _ _ _ us hl=>by obtain ⟨_,_,rfl⟩:=ig hl; rfl
 have b16:=F16.binds (ps:=["_law_source_here"]) fun _ _ _ _ _ _ us hl=>by obtain ⟨_,rfl⟩:=gj hl; rfl
 have b17:=F17.binds (ps:=["_law_source_here","_law_many"]) fun _ _ _ _ _ _ us hl=>by obtain ⟨_,_,rfl⟩:=ig hl; rfl
 have b18:=F18.binds (ps:=["_law_script","_law_base","_law_most","_law_longs"]) fun _ _ _ _ _ _ us hl=>by obtain ⟨_,_,_,_,rfl⟩:=AG hl; rfl
 have b19:=F19.binds (ps:=["_law_tongue_here"]) fun _ _ _ _ _ _ us hl=>by obtain ⟨_,rfl⟩:=gj hl; rfl
 have b20:=F20.binds (ps:=["_law_tongue_here","_law_ahead","_law_sign"]) fun _ _ _ _ _ _ us hl=>by obtain ⟨_,_,_,rfl⟩:=pC hl; rfl
 have b21:=F21.binds (ps:=["_law_tongue_here","_law_thing"]) fun _ _ _ _ _ _ us hl=>by obtain ⟨_,_,rfl⟩:=ig hl; rfl
 have b22:=F22.binds (ps:=["_law_tongue_here","_law_thing"]) fun _ _ _ _ _ _ us hl=>by obtain ⟨_,_,rfl⟩:=ig hl; rfl
 have b23:=F23.binds (ps:=["_law_tongue_here"]) fun _ _ _ _ _ _ us hl=>by obtain ⟨_,rfl⟩:=gj hl; rfl
 have b24:=F24.binds (ps:=["tongue","book"]) fun _ _ _ _ _ _ us hl=>by obtain ⟨_,_,rfl⟩:=ig hl; rfl
 have b25:=F25.binds (ps:=["signs","things","deep"]) fun _ _ _ _ _ _ us hl=>by obtain ⟨_,_,_,rfl⟩:=pC hl; rfl
 have b26:=F26.binds (ps:=["signs","things","deep"]) fun _ _ _ _ _ _ us hl=>by obtain ⟨_,_,_,rfl⟩:=pC hl; rfl
 have b27:=F27.binds (ps:=["_law_book","_law_word"]) fun _ _ _ _ _ _ us hl=>by obtain ⟨_,_,rfl⟩:=ig hl; rfl
 have b28:=F28.binds (ps:=["_law_script"]) fun _ _ _ _ _ _ us hl=>by obtain ⟨_,rfl⟩:=gj hl; rfl
 have b29:=F29.binds (ps:=["tongue","thing"]) fun _ _ _ _ _ _ us hl=>by obtain ⟨_,_,rfl⟩:=ig hl; rfl
 have b30:=F30.binds (ps:=["tongue","thing"]) fun _ _ _ _ _ _ us hl=>by obtain ⟨_,_,rfl⟩:=ig hl; rfl
 have b31:=F31.binds (ps:=["tongue","ahead","sign"]) fun _ _ _ _ _ _ us hl=>by obtain ⟨_,_,_,rfl⟩:=pC hl; rfl
 have b32:=F32.binds (ps:=["tongue"]) fun _ _ _ _ _ _ us hl=>by obtain ⟨_,rfl⟩:=gj hl; rfl
 have b33:=F33.binds (ps:=["tongue","many","thing"]) fun _ _ _ _ _ _ us hl=>by obtain ⟨_,_,_,rfl⟩:=pC hl; rfl
 have b34:=F34.binds (ps:=["tongue","many","thing","text","words"]) fun _ _ _ _ _ _ us hl=>by obtain ⟨_,_,_,_,_,rfl⟩:=xI hl; rfl
 have b35:=F35.binds (ps:=["signs","thing"]) fun _ _ _ _ _ _ us hl=>by obtain ⟨_,_,rfl⟩:=ig hl; rfl
 have b36:=F36.binds (ps:=["tongue","many","number","text","words"]) fun _ _ _ _ _ _ us hl=>by obtain ⟨_,_,_,_,_,rfl⟩:=xI hl; rfl
 have b37:=F37.binds (ps:=["_law_names","_law_ends"]) fun _ _ _ _ _ _ us hl=>by obtain ⟨_,_,rfl⟩:=ig hl; rfl
 have b38:=F38.binds (ps:=["_law_tongue_here","_law_book"]) fun _ _ _ _ _ _ us hl=>by obtain ⟨_,_,rfl⟩:=ig hl; rfl
 have b39:=F39.binds (ps:=["_law_thing"]) fun _ _ _ _ _ _ us hl=>by obtain ⟨_,rfl⟩:=gj hl; rfl
 have b40:=F40.binds (ps:=["_law_kept"]) fun _ _ _ _ _ _ us hl=>by obtain ⟨_,rfl⟩:=gj hl; rfl
 have b41:=F41.binds (ps:=["_law_rows","_law_many","_law_by"]) fun _ _ _ _ _ _ us hl=>by obtain ⟨_,_,_,rfl⟩:=pC hl; rfl
 have b42:=F42.binds (ps:=["_law_rows","_law_at","_law_names","_law_many","_law_source_here"]) fun _ _ _ _ _ _ us hl=>by obtain ⟨_,_,_,_,_,rfl⟩:=xI hl; rfl
 have b43:=F43.binds (ps:=["_law_rows","_law_names","_law_many","_law_source_here"]) fun _ _ _ _ _ _ us hl=>by obtain ⟨_,_,_,_,rfl⟩:=AG hl; rfl
 have b44:=F44.binds (ps:=["_law_tongue_here","_law_many","_law_thing","_law_begin","_law_found"]) fun _ _ _ _ _ _ us hl=>by obtain ⟨_,_,_,_,_,rfl⟩:=xI hl; rfl
 have b45:=F45.binds (ps:=["_law_tongue_here","_law_many","_law_thing"]) fun _ _ _ _ _ _ us hl=>by obtain ⟨_,_,_,rfl⟩:=pC hl; rfl
 have cl:∀{D:Addr},PySem.W.hasDictIn K D=true→(PySem.W.clsIn K D).isSome=true:=fun q=>by
  obtain ⟨cd,z,_⟩:=PySem.W.any_some q;rw [z]; rfl
 have C:Cl K mg [C0,C1,C2,C3,C4,C5,C6,C7,C8,C9,C10,C11,C12,C13,C14]:=by
  refine ⟨rfl,PySem.W.mg_of X G m0,PySem.W.mg_of X G m1,PySem.W.mg_of X G m2,PySem.W.mg_of X G m3,PySem.W.mg_of X G m4,PySem.W.mg_of X G m5,PySem.W.mg_of X G m6,PySem.W.mg_of X G m7,PySem.W.mg_of X G m8,PySem.W.mg_of X G m9,PySem.W.mg_of X G m10,PySem.W.mg_of X G m11,PySem.W.mg_of X G m12,PySem.W.mg_of X G m13,PySem.W.mg_of X G m14,excB,⟨q1,q0,q2,q3,q4,q5,q6,qb⟩,q7,q8,q9,⟨r1,cl r2,r3⟩,fun i h1 h2=>?_⟩;have L:∀D∈[C2,C3,C4,C5,C6,C7,C8,C9,C10,C11,C12,C13,C14],Other K C1 D:=List.forall_mem_cons.mpr ⟨⟨n2,d2,t2⟩,List.forall_mem_cons.mpr ⟨⟨n3,d3,t3⟩,List.forall_mem_cons.mpr ⟨⟨n4,d4,t4⟩,List.forall_mem_cons.mpr ⟨⟨n5,d5,t5⟩,List.forall_mem_cons.mpr ⟨⟨n6,d6,t6⟩,List.forall_mem_cons.mpr ⟨⟨n7,d7,t7⟩,List.forall_mem_cons.mpr ⟨⟨n8,d8,t8⟩,List.forall_mem_cons.mpr ⟨⟨n9,d9,t9⟩,List.forall_mem_cons.mpr ⟨⟨n10,d10,t10⟩,List.forall_mem_cons.mpr ⟨⟨n11,d11,t11⟩,List.forall_mem_cons.mpr ⟨⟨n12,d12,t12⟩,List.forall_mem_cons.mpr ⟨⟨n13,d13,t13⟩,List.forall_mem_cons.mpr ⟨⟨n14,d14,t14⟩,fun _ h=>nomatch h⟩⟩⟩⟩⟩⟩⟩⟩⟩⟩⟩⟩⟩;obtain ⟨j,rfl⟩:∃j,i=j + 2:=⟨i - 2,by omega⟩;have hj:j < 13:=by omega
  show Other K C1 ([C2,C3,C4,C5,C6,C7,C8,C9,C10,C11,C12,C13,C14].getD j 0);rw [List.getD_eq_getElem?_getD,List.getElem?_eq_getElem (by exact hj)];exact L _ (List.getElem_mem _)
 refine ⟨PySem.W.fnOf "law" "law" (aD kE) (aC kE) (af kE) .none kV46 dc46 pm46 an46 cd46 ct46,fun s v=>.of_eq rfl,fun base _ _ BM=>?_⟩;have GW:=uM (P:=l.prog) (w:=w) (mg:=mg) (base:=base) F0 B;have GI:=sL (P:=l.prog) (w:=w) (mg:=mg) (base:=base) F1 GW (PySem.W.mg_of X G a0) k0 b0;have GG:=zj (P:=l.prog) (w:=w) (mg:=mg) (base:=base) F4 B;have GF:=zr (P:=l.prog) (w:=w) (mg:=mg) (base:=base) F2 B GW (PySem.W.mg_of X G a0) k0 b0 GG (PySem.W.mg_of X G a4) k4 b4;have GN:=w6 (P:=l.prog) (w:=w) (mg:=mg) (base:=base) l3 c3 B CN3.ck BM (PySem.W.mg_of X G aLe) (PySem.W.mg_of X G aLo);have GL:=sN (P:=l.prog) (w:=w) (mg:=mg) (base:=base) F5 B GN (PySem.W.mg_of X G a3) k3 b3;have GA:=uS (P:=l.prog) (w:=w) (mg:=mg) (base:=base) F9 GF (PySem.W.mg_of X G a2) k2 b2;have GR:=zt (P:=l.prog) (w:=w) (mg:=mg) (base:=base) F8 B GL (PySem.W.mg_of X G a5) k5 b5 GA (PySem.W.mg_of X G a9) k9 b9;have GSi:=uT (P:=l.prog) (w:=w) (mg:=mg) (base:=base) l7 c7 B CN7.ck BM (PySem.W.mg_of X G aFe) (PySem.W.mg_of X G aMo) GR (PySem.W.mg_of X G a8) k8 b8;have GSo:=p0 (P:=l.prog) (w:=w) (mg:=mg) (base:=base) F11;have GUl:=sO (P:=l.prog) (w:=w) (mg:=mg) (base:=base) F10 B;have GLk:=xa (P:=l.prog) (w:=w) (mg:=mg) (base:=base) F6 B (PySem.W.mg_of X G aLw) GSi (PySem.W.mg_of X G a7) k7 b7 GSo (PySem.W.mg_of X G a11) k11 b11 GUl (PySem.W.mg_of X G a10) k10 b10 GI (PySem.W.mg_of X G a1) k1 b1;have GCe:=xb (P:=l.prog) (w:=w) (mg:=mg) (base:=base) F12 B;have GS:=sF (P:=l.prog) (w:=w) (mg:=mg) (base:=base) F13 B;have GD:=wW (P:=l.prog) (w:=w) (mg:=mg) (base:=base) F14;have GLo:=zk (P:=l.prog) (w:=w) (mg:=mg) (base:=base) F15 B;have GPr:=uU (P:=l.prog) (w:=w) (mg:=mg) (base:=base) F16 GD (PySem.W.mg_of X G a14) k14 b14 GLo (PySem.W.mg_of X G a15) k15 b15;have GLs:=sR (P:=l.prog) (w:=w) (mg:=mg) (base:=base) F17 B GD (PySem.W.mg_of X G a14) k14 b14 GPr (PySem.W.mg_of X G a16) k16 b16;have GT:=sS (P:=l.prog) (w:=w) (mg:=mg) (base:=base) F18 B GCe (PySem.W.mg_of X G a12) k12 b12 GS (PySem.W.mg_of X G a13) k13 b13 GD (PySem.W.mg_of X G a14) k14 b14 GLs (PySem.W.mg_of X G a17) k17 b17;have GCp:=xh (P:=l.prog) (w:=w) (mg:=mg) (base:=base) F19 B;have GBr:=vd (P:=l.prog) (w:=w) (mg:=mg) (base:=base) F25 F26 B (PySem.W.mg_of X G a25) k25 b25 (PySem.W.mg_of X G a26) k26 b26 8;have GTo:=sY (P:=l.prog) (w:=w) (mg:=mg) (base:=base) (T1:=T3) (T2:=T7) F24 B GLk (PySem.W.mg_of X G a6) k6 b6 GSo (PySem.W.mg_of X G a11) k11 b11 GBr (PySem.W.mg_of X G a25) k25 b25;have GCo:=uZ (P:=l.prog) (w:=w) (mg:=mg) (base:=base) F20;have GLS:=p9 (P:=l.prog) (w:=w) (mg:=mg) (base:=base) F21 B GCo (PySem.W.mg_of X G a20) k20 b20;have GLW:=qa (P:=l.prog) (w:=w) (mg:=mg) (base:=base) F22 GLS (PySem.W.mg_of X G a21) k21 b21;have GWo:=sX (P:=l.prog) (w:=w) (mg:=mg) (base:=base) F23 GCo (PySem.W.mg_of X G a20) k20 b20 GLW (PySem.W.mg_of X G a22) k22 b22 B;have GCl:=qe (P:=l.prog) (w:=w) (mg:=mg) (base:=base) F27 B;have GWd:=u8 (P:=l.prog) (w:=w) (mg:=mg) (base:=base) F28 B GCe (PySem.W.mg_of X G a12) k12 b12 GS (PySem.W.mg_of X G a13) k13 b13 GD (PySem.W.mg_of X G a14) k14 b14 GT (PySem.W.mg_of X G a18) k18 b18 GWo (PySem.W.mg_of X G a23) k23 b23 GCl (PySem.W.mg_of X G a27) k27 b27;have GFo:=qf (P:=l.prog) (w:=w) (mg:=mg) (base:=base) F31;have GSt:=sZ (P:=l.prog) (w:=w) (mg:=mg) (base:=base) F29 B GSo (PySem.W.mg_of X G a11) k11 b11 GFo (PySem.W.mg_of X G a31) k31 b31;have GLa:=vf (P:=l.prog) (w:=w) (mg:=mg) (base:=base) F32;have GAw:=tj (P:=l.prog) (w:=w) (mg:=mg) (base:=base) F30 GSt (PySem.W.mg_of X G a29) k29 b29 GLa (PySem.W.mg_of X G a32) k32 b32;have GLb:=vD (P:=l.prog) (w:=w) (mg:=mg) (base:=base) F35 B (PySem.W.mg_of X G m1) excB;have GPw:=xz (P:=l.prog) (w:=w) (mg:=mg) (base:=base) F36 B (PySem.W.mg_of X G m1) excB GI (PySem.W.mg_of X G a1) k1 b1 GAw (PySem.W.mg_of X G a30) k30 b30;have GGa:=ke (P:=l.prog) (w:=w) (mg:=mg) (base:=base) F34 B (PySem.W.mg_of X G m1) excB GSo (PySem.W.mg_of X G a11) k11 b11 GW (PySem.W.mg_of X G a0) k0 b0 GLb (PySem.W.mg_of X G a35) k35 b35 GPw (PySem.W.mg_of X G a36) k36 b36 (PySem.W.mg_of X G a34) k34 b34 13
 have GBo:=tu (P:=l.prog) (w:=w) (mg:=mg) (base:=base) (T1:=T3) (T2:=T7) F33 B (PySem.W.mg_of X G m1) excB GLk (PySem.W.mg_of X G a6) k6 b6 GGa (PySem.W.mg_of X G a34) k34 b34;have GCd:=kf (P:=l.prog) (w:=w) (mg:=mg) (base:=base) F39 B (PySem.W.mg_of X G a39) k39 b39 25;have GRe:=kg (P:=l.prog) (w:=w) (mg:=mg) (base:=base) F44 B GLS (PySem.W.mg_of X G a21) k21 b21 GLW (PySem.W.mg_of X G a22) k22 b22 (PySem.W.mg_of X G a44) k44 b44 13;have GRf:=ql (P:=l.prog) (w:=w) (mg:=mg) (base:=base) F40 B (PySem.W.mg_none_of X G zve) C;have GRi:=vI (P:=l.prog) (w:=w) (mg:=mg) (base:=base) (T1:=T3) (T2:=T7) F45 B C rfl GCd (PySem.W.mg_of X G a39) k39 b39 GBo (PySem.W.mg_of X G a33) k33 b33 GRe (PySem.W.mg_of X G a44) k44 b44 GRf (PySem.W.mg_of X G a40) k40 b40 GTo (PySem.W.mg_of X G a24) k24 b24;have GGr:=mm (P:=l.prog) (w:=w) (mg:=mg) (base:=base) F37 B (PySem.W.mg_of X G a37) k37 b37 9;have GTe:=xE (P:=l.prog) (w:=w) (mg:=mg) (base:=base) F38 B GGr (PySem.W.mg_of X G a37) k37 b37;have GTu:=kh (P:=l.prog) (w:=w) (mg:=mg) (base:=base) F41 B (PySem.W.mg_of X G a41) k41 b41 10;have GBh:=pz (P:=l.prog) (w:=w) (mg:=mg) (base:=base) F42 B GD (PySem.W.mg_of X G a14) k14 b14;have GBe:=pA (P:=l.prog) (w:=w) (mg:=mg) (base:=base) F43 B GD (PySem.W.mg_of X G a14) k14 b14 GBh (PySem.W.mg_of X G a42) k42 b42 (PySem.W.mg_of X G a43) k43 b43 13;exact zE (P:=l.prog) (w:=w) (mg:=mg) (base:=base) (T1:=T3) (T2:=T7) F46 B GCe (PySem.W.mg_of X G a12) k12 b12 GS (PySem.W.mg_of X G a13) k13 b13 GD (PySem.W.mg_of X G a14) k14 b14 GWd (PySem.W.mg_of X G a28) k28 b28 GCp (PySem.W.mg_of X G a19) k19 b19 GTe (PySem.W.mg_of X G a38) k38 b38 GTu (PySem.W.mg_of X G a41) k41 b41 GBe (PySem.W.mg_of X G a43) k43 b43 GRi (PySem.W.mg_of X G a45) k45 b45
theorem BC {l:PySem.W.OpenLaw} {q:Program} {loose:List Str} {XP:(Str→Option Value)→Heap→Prop} {YP:World→Heap→Prop} {d:DefRec} {K:Params→PySem.W.Frag} (hn:l.most=some 63) (hdf:d.params.defaults=[])
  (hY:∀(w:World) (h:Heap),YP w h→(K w.params).In h) (hf:HF q ["is_name","are_signs"]) (hC:∀w:World,HC (K w.params) ["is_name","are_signs"]) (hKT:∀w:World,HT0 (K w.params) ["is_name","are_signs"])
  (F:∀(w:World) (mg:Str→Option Value) (fa:Addr) (h:Heap),(K w.params).In h→h.Ns mainGlobals mg→mg d.name=some (.ref fa)→
   ∃fd:FuncData,(∀(s:Shared) (u:Value),BindsTo s fd ⟨[u],[]⟩ [("_law_script",u)])∧∀base:Heap,(K w.params).In base→base.Ns mainGlobals mg→kr mg base→FnOk l.prog w (K w.params) mg base (CXE l.prog w) 28 fa fd ["_law_script"] (pB (iy (K w.params) "is_name") (iy (K w.params) "are_signs") (K w.params))) :
  PySem.W.WalkO q loose XP YP l.row.toRowW d [] (fun f vs=>PySem.call f vs):=by
 refine L2.uB ["is_name","are_signs"] (n:=63) (k:=28) (x:="_law_script") (CX:=fun w=>CXE l.prog w) (sp:=fun w=>pB (iy (K w.params) "is_name") (iy (K w.params) "are_signs") (K w.params)) hn (by decide) hdf ⟨rfl,by decide,by decide⟩ hY hf hC hKT F ?_ fun _ _ _ _ _ z=>?_
 ·intro w H a ns hl hT hS;exact ⟨a,ns,rfl,hS,hl,⟨#[],hT "is_name" (by simp),trivial⟩,⟨#[],hT "are_signs" (by simp),trivial⟩,fun _=>rfl⟩
 ·obtain ⟨_,_,_,_,_,_,_,_,_,_,_,_,z⟩:=z;exact z
theorem AH {l:PySem.W.OpenLaw} {q:Program} {loose:List Str} {XP:(Str→Option Value)→Heap→Prop} {d:DefRec} {K:Params→PySem.W.Frag} (hn:l.most=some 63) (hdf:d.params.defaults=[])
  (hf:HF q ["is_name","are_signs"]) (hC:∀w:World,HC (dF (K w.params)) ["is_name","are_signs"]) (hKT:∀w:World,HT0 (dF (K w.params)) ["is_name","are_signs"])
  (F:∀(w:World) (mg:Str→Option Value) (fa:Addr) (h:Heap),(dF (K w.params)).In h→h.Ns mainGlobals mg→mg d.name=some (.ref fa)→
   ∃fd:FuncData,(∀(s:Shared) (u:Value),BindsTo s fd ⟨[u],[]⟩ [("_law_script",u)])∧∀base:Heap,(dF (K w.params)).In base→base.Ns mainGlobals mg→kr mg base→FnOk l.prog w (dF (K w.params)) mg base (CXE l.prog w) 28 fa fd ["_law_script"] (pB (iy (dF (K w.params)) "is_name") (iy (dF (K w.params)) "are_signs") (dF (K w.params)))) :
  PySem.W.WalkO q loose XP (fun w h=>(dF (K w.params)).In h) l.row.toRowW d [] (fun f vs=>PySem.call f vs):=
 BC (K:=fun P=>dF (K P)) hn hdf (fun w h Y=>Y) hf hC hKT F
end G1
open PySem PySem.W PyProof.Rows
local macro_rules | `(tactic| refine $t) => `(tactic| (refine' $t; try (case hl => exact HD.rF HP.e1 (by kernel_rfl) HP.e2 HP.pre HP.blk HP.body HP.zI (by kernel_rfl) HP.zJ (fun w => by kernel_rfl) (fun w => by kernel_rfl))))
set_option maxRecDepth 100000 in
set_option maxHeartbeats 0 in
theorem PySem.Challenge.cw_dearsigns_k17_whole_whatever_tree_holds : PySem.Challenge.rw_dearsigns_k17_whole_whatever_tree.Holds := by
 w_on; o_law; z_head; (case hw=>w_witness2)
 k_fill
 refine L2.vP (fun _=>by kernel_rfl) (G1.AH (l:=PySem.Challenge.rw_dearsigns_k17_whole_whatever_tree) rfl rfl ⟨⟨_,rfl⟩,⟨_,rfl⟩,trivial⟩ ?C ?KT ?F)
 case C=>
  intro w;refine' ⟨⟨_,_,_,_,L2.iK ?x0_a ?x0_l ?x0_hc ?x0_lc ?x0_h11 ?x0_h18 ?x0_h7 ?x0_h9 ?x0_h10 ?x0_ne⟩,⟨_,_,_,_,L2.iK ?x1_a ?x1_l ?x1_hc ?x1_lc ?x1_h11 ?x1_h18 ?x1_h7 ?x1_h9 ?x1_h10 ?x1_ne⟩,trivial⟩
  (case x0_a=>refine L2.ao ?_; k_is)
  (case x0_l=>refine L2.av ?zz1 ?zz2; (case zz1=>k_is); (case zz2=>rfl))
  (case x0_hc=>rfl)
  (case x0_lc=>refine L2.av ?zz1 ?zz2; (case zz1=>k_is); (case zz2=>rfl))
  (case x0_h11=>rfl)
  (case x0_h18=>rfl)
  (case x0_h7=>rfl)
  (case x0_h9=>rfl)
  (case x0_h10=>rfl)
  (case x0_ne=>decide)
  (case x1_a=>refine L2.ao ?_; k_is)
  (case x1_l=>refine L2.av ?zz1 ?zz2; (case zz1=>k_is); (case zz2=>rfl))
  (case x1_hc=>rfl)
  (case x1_lc=>refine L2.av ?zz1 ?zz2; (case zz1=>k_is); (case zz2=>rfl))
  (case x1_h11=>rfl)
  (case x1_h18=>rfl)
  (case x1_h7=>rfl)
  (case x1_h9=>rfl)
  (case x1_h10=>rfl)
  (case x1_ne=>decide)
 case KT=>
  intro w;exact ⟨by kernel_rfl,by kernel_rfl,trivial⟩
 case F=>
  intro w mg fa h KX G hmg;refine' G1.zF KX G hmg (L2.iK ?y0_a ?y0_l ?y0_hc ?y0_lc ?y0_h11 ?y0_h18 ?y0_h7 ?y0_h9 ?y0_h10 ?y0_ne) (L2.iK ?y1_a ?y1_l ?y1_hc ?y1_lc ?y1_h11 ?y1_h18 ?y1_h7 ?y1_h9 ?y1_h10 ?y1_ne) ?a0 ?l0 ?c0 ?a1 ?l1 ?c1 ?a2 ?l2 ?c2 ?a3 ?l3 ?c3 ?a4 ?l4 ?c4 ?a5 ?l5 ?c5 ?a6 ?l6 ?c6 ?a7 ?l7 ?c7 ?a8 ?l8 ?c8 ?a9 ?l9 ?c9 ?a10 ?l10 ?c10 ?a11 ?l11 ?c11 ?a12 ?l12 ?c12 ?a13 ?l13 ?c13 ?a14 ?l14 ?c14 ?a15 ?l15 ?c15 ?a16 ?l16 ?c16 ?a17 ?l17 ?c17 ?a18 ?l18 ?c18 ?a19 ?l19 ?c19 ?a20 ?l20 ?c20 ?a21 ?l21 ?c21 ?a22 ?l22 ?c22 ?a23 ?l23 ?c23 ?a24 ?l24 ?c24 ?a25 ?l25 ?c25 ?a26 ?l26 ?c26 ?a27 ?l27 ?c27 ?a28 ?l28 ?c28 ?a29 ?l29 ?c29 ?a30 ?l30 ?c30 ?a31 ?l31 ?c31 ?a32 ?l32 ?c32 ?a33 ?l33 ?c33 ?a34 ?l34 ?c34 ?a35 ?l35 ?c35 ?a36 ?l36 ?c36 ?a37 ?l37 ?c37 ?a38 ?l38 ?c38 ?a39 ?l39 ?c39 ?a40 ?l40 ?c40 ?a41 ?l41 ?c41 ?a42 ?l42 ?c42 ?a43 ?l43 ?c43 ?a44 ?l44 ?c44 ?a45 ?l45 ?c45 ?a46 ?l46 ?c46 ?aLe ?aLo ?aFe ?aMo ?aLw ?m0 ?m1 ?m2 ?m3 ?m4 ?m5 ?m6 ?m7 ?m8 ?m9 ?m10 ?m11 ?m12 ?m13 ?m14 ?q1 ?q0 ?q2 ?q3 ?q6 ?qb ?q7 ?q4 ?q5 ?q8 ?q9 ?r1 ?r2 ?r3 ?n2 ?d2 ?t2 ?n3 ?d3 ?t3 ?n4 ?d4 ?t4 ?n5 ?d5 ?t5 ?n6 ?d6 ?t6 ?n7 ?d7 ?t7 ?n8 ?d8 ?t8 ?n9 ?d9 ?t9 ?n10 ?d10 ?t10 ?n11 ?d11 ?t11 ?n12 ?d12 ?t12 ?n13 ?d13 ?t13 ?n14 ?d14 ?t14 ?excB ?zve ?z_isi ?z_int ?z_bool ?z_tuple ?z_abs ?z_len ?z_enum ?z_str ?z_range ?z_max ?z_all ?z_set ?z_list ?z_min ?z_sum ?z_dict ?z_any ?z_reversed ?z_sorted
  (case y0_a=>refine L2.ao ?_; k_is)
  (case y0_l=>refine L2.av ?zz1 ?zz2; (case zz1=>k_is); (case zz2=>rfl))
  (case y0_hc=>rfl)
  (case y0_lc=>refine L2.av ?zz1 ?zz2; (case zz1=>k_is); (case zz2=>rfl))
  (case y0_h11=>rfl)
  (case y0_h18=>rfl)
  (case y0_h7=>rfl)
  (case y0_h9=>rfl)
  (case y0_h10=>rfl)
  (case y0_ne=>decide)
  (case y1_a=>refine L2.ao ?_; k_is)
  (case y1_l=>refine L2.av ?zz1 ?zz2; (case zz1=>k_is); (case zz2=>rfl))
  (case y1_hc=>rfl)
  (case y1_lc=>refine L2.av ?zz1 ?zz2; (case zz1=>k_is); (case zz2=>rfl))
  (case y1_h11=>rfl)
  (case y1_h18=>rfl)
  (case y1_h7=>rfl)
  (case y1_h9=>rfl)
  (case y1_h10=>rfl)
  (case y1_ne=>decide)
  (case a0=>refine L2.ao ?_; k_is)
  (case l0=>refine L2.av ?zz1 ?zz2; (case zz1=>k_is); (case zz2=>rfl))
  (case c0=>refine L2.aB ?_; k_is)
  (case a1=>refine L2.ao ?_; k_is)
  (case l1=>refine L2.av ?zz1 ?zz2; (case zz1=>k_is); (case zz2=>rfl))
  (case c1=>refine L2.aB ?_; k_is)
  (case a2=>refine L2.ao ?_; k_is)
  (case l2=>refine L2.av ?zz1 ?zz2; (case zz1=>k_is); (case zz2=>rfl))
  (case c2=>refine L2.aB ?_; k_is)
  (case a3=>refine L2.ao ?_; k_is)
  (case l3=>refine L2.av ?zz1 ?zz2; (case zz1=>k_is); (case zz2=>rfl))
  (case c3=>refine L2.aB ?_; k_is)
  (case a4=>refine L2.ao ?_; k_is)
  (case l4=>refine L2.av ?zz1 ?zz2; (case zz1=>k_is); (case zz2=>rfl))
  (case c4=>refine L2.aB ?_; k_is)
  (case a5=>refine L2.ao ?_; k_is)
  (case l5=>refine L2.av ?zz1 ?zz2; (case zz1=>k_is); (case zz2=>rfl))
  (case c5=>refine L2.aB ?_; k_is)
  (case a6=>refine L2.ao ?_; k_is)
  (case l6=>refine L2.av ?zz1 ?zz2; (case zz1=>k_is); (case zz2=>rfl))
  (case c6=>refine L2.aB ?_; k_is)
  (case a7=>refine L2.ao ?_; k_is)
  (case l7=>refine L2.av ?zz1 ?zz2; (case zz1=>k_is); (case zz2=>rfl))
  (case c7=>refine L2.aB ?_; k_is)
  (case a8=>refine L2.ao ?_; k_is)
  (case l8=>refine L2.av ?zz1 ?zz2; (case zz1=>k_is); (case zz2=>rfl))
  (case c8=>refine L2.aB ?_; k_is)
  (case a9=>refine L2.ao ?_; k_is)
  (case l9=>refine L2.av ?zz1 ?zz2; (case zz1=>k_is); (case zz2=>rfl))
  (case c9=>refine L2.aB ?_; k_is)
  (case a10=>refine L2.ao ?_; k_is)
  (case l10=>refine L2.av ?zz1 ?zz2; (case zz1=>k_is); (case zz2=>rfl))
  (case c10=>refine L2.aB ?_; k_is)
  (case a11=>refine L2.ao ?_; k_is)
  (case l11=>refine L2.av ?zz1 ?zz2; (case zz1=>k_is); (case zz2=>rfl))
  (case c11=>refine L2.aB ?_; k_is)
  (case a12=>refine L2.ao ?_; k_is)
  (case l12=>refine L2.av ?zz1 ?zz2; (case zz1=>k_is); (case zz2=>rfl))
  (case c12=>refine L2.aB ?_; k_is)
  (case a13=>refine L2.ao ?_; k_is)
  (case l13=>refine L2.av ?zz1 ?zz2; (case zz1=>k_is); (case zz2=>rfl))
  (case c13=>refine L2.aB ?_; k_is)
  (case a14=>refine L2.ao ?_; k_is)
  (case l14=>refine L2.av ?zz1 ?zz2; (case zz1=>k_is); (case zz2=>rfl))
  (case c14=>refine L2.aB ?_; k_is)
  (case a15=>refine L2.ao ?_; k_is)
  (case l15=>refine L2.av ?zz1 ?zz2; (case zz1=>k_is); (case zz2=>rfl))
  (case c15=>refine L2.aB ?_; k_is)
  (case a16=>refine L2.ao ?_; k_is)
  (case l16=>refine L2.av ?zz1 ?zz2; (case zz1=>k_is); (case zz2=>rfl))
  (case c16=>refine L2.aB ?_; k_is)
  (case a17=>refine L2.ao ?_; k_is)
  (case l17=>refine L2.av ?zz1 ?zz2; (case zz1=>k_is); (case zz2=>rfl))
  (case c17=>refine L2.aB ?_; k_is)
  (case a18=>refine L2.ao ?_; k_is)
  (case l18=>refine L2.av ?zz1 ?zz2; (case zz1=>k_is); (case zz2=>rfl))
  (case c18=>refine L2.aB ?_; k_is)
  (case a19=>refine L2.ao ?_; k_is)
  (case l19=>refine L2.av ?zz1 ?zz2; (case zz1=>k_is); (case zz2=>rfl))
  (case c19=>refine L2.aB ?_; k_is)
  (case a20=>refine L2.ao ?_; k_is)
  (case l20=>refine L2.av ?zz1 ?zz2; (case zz1=>k_is); (case zz2=>rfl))
  (case c20=>refine L2.aB ?_; k_is)
  (case a21=>refine L2.ao ?_; k_is)
  (case l21=>refine L2.av ?zz1 ?zz2; (case zz1=>k_is); (case zz2=>rfl))
  (case c21=>refine L2.aB ?_; k_is)
  (case a22=>refine L2.ao ?_; k_is)
  (case l22=>refine L2.av ?zz1 ?zz2; (case zz1=>k_is); (case zz2=>rfl))
  (case c22=>refine L2.aB ?_; k_is)
  (case a23=>refine L2.ao ?_; k_is)
  (case l23=>refine L2.av ?zz1 ?zz2; (case zz1=>k_is); (case zz2=>rfl))
  (case c23=>refine L2.aB ?_; k_is)
  (case a24=>refine L2.ao ?_; k_is)
  (case l24=>refine L2.av ?zz1 ?zz2; (case zz1=>k_is); (case zz2=>rfl))
  (case c24=>refine L2.aB ?_; k_is)
  (case a25=>refine L2.ao ?_; k_is)
  (case l25=>refine L2.av ?zz1 ?zz2; (case zz1=>k_is); (case zz2=>rfl))
  (case c25=>refine L2.aB ?_; k_is)
  (case a26=>refine L2.ao ?_; k_is)
  (case l26=>refine L2.av ?zz1 ?zz2; (case zz1=>k_is); (case zz2=>rfl))
  (case c26=>refine L2.aB ?_; k_is)
  (case a27=>refine L2.ao ?_; k_is)
  (case l27=>refine L2.av ?zz1 ?zz2; (case zz1=>k_is); (case zz2=>rfl))
  (case c27=>refine L2.aB ?_; k_is)
  (case a28=>refine L2.ao ?_; k_is)
  (case l28=>refine L2.av ?zz1 ?zz2; (case zz1=>k_is); (case zz2=>rfl))
  (case c28=>refine L2.aB ?_; k_is)
  (case a29=>refine L2.ao ?_; k_is)
  (case l29=>refine L2.av ?zz1 ?zz2; (case zz1=>k_is); (case zz2=>rfl))
  (case c29=>refine L2.aB ?_; k_is)
  (case a30=>refine L2.ao ?_; k_is)
  (case l30=>refine L2.av ?zz1 ?zz2; (case zz1=>k_is); (case zz2=>rfl))
  (case c30=>refine L2.aB ?_; k_is)
  (case a31=>refine L2.ao ?_; k_is)
  (case l31=>refine L2.av ?zz1 ?zz2; (case zz1=>k_is); (case zz2=>rfl))
  (case c31=>refine L2.aB ?_; k_is)
  (case a32=>refine L2.ao ?_; k_is)
  (case l32=>refine L2.av ?zz1 ?zz2; (case zz1=>k_is); (case zz2=>rfl))
  (case c32=>refine L2.aB ?_; k_is)
  (case a33=>refine L2.ao ?_; k_is)
  (case l33=>refine L2.av ?zz1 ?zz2; (case zz1=>k_is); (case zz2=>rfl))
  (case c33=>refine L2.aB ?_; k_is)
  (case a34=>refine L2.ao ?_; k_is)
  (case l34=>refine L2.av ?zz1 ?zz2; (case zz1=>k_is); (case zz2=>rfl))
  (case c34=>refine L2.aB ?_; k_is)
  (case a35=>refine L2.ao ?_; k_is)
  (case l35=>refine L2.av ?zz1 ?zz2; (case zz1=>k_is); (case zz2=>rfl))
  (case c35=>refine L2.aB ?_; k_is)
  (case a36=>refine L2.ao ?_; k_is)
  (case l36=>refine L2.av ?zz1 ?zz2; (case zz1=>k_is); (case zz2=>rfl))
  (case c36=>refine L2.aB ?_; k_is)
  (case a37=>refine L2.ao ?_; k_is)
  (case l37=>refine L2.av ?zz1 ?zz2; (case zz1=>k_is); (case zz2=>rfl))
  (case c37=>refine L2.aB ?_; k_is)
  (case a38=>refine L2.ao ?_; k_is)
  (case l38=>refine L2.av ?zz1 ?zz2; (case zz1=>k_is); (case zz2=>rfl))
  (case c38=>refine L2.aB ?_; k_is)
  (case a39=>refine L2.ao ?_; k_is)
  (case l39=>refine L2.av ?zz1 ?zz2; (case zz1=>k_is); (case zz2=>rfl))
  (case c39=>refine L2.aB ?_; k_is)
  (case a40=>refine L2.ao ?_; k_is)
  (case l40=>refine L2.av ?zz1 ?zz2; (case zz1=>k_is); (case zz2=>rfl))
  (case c40=>refine L2.aB ?_; k_is)
  (case a41=>refine L2.ao ?_; k_is)
  (case l41=>refine L2.av ?zz1 ?zz2; (case zz1=>k_is); (case zz2=>rfl))
  (case c41=>refine L2.aB ?_; k_is)
  (case a42=>refine L2.ao ?_; k_is)
  (case l42=>refine L2.av ?zz1 ?zz2; (case zz1=>k_is); (case zz2=>rfl))
  (case c42=>refine L2.aB ?_; k_is)
  (case a43=>refine L2.ao ?_; k_is)
  (case l43=>refine L2.av ?zz1 ?zz2; (case zz1=>k_is); (case zz2=>rfl))
  (case c43=>refine L2.aB ?_; k_is)
  (case a44=>refine L2.ao ?_; k_is)
  (case l44=>refine L2.av ?zz1 ?zz2; (case zz1=>k_is); (case zz2=>rfl))
  (case c44=>refine L2.aB ?_; k_is)
  (case a45=>refine L2.ao ?_; k_is)
  (case l45=>refine L2.av ?zz1 ?zz2; (case zz1=>k_is); (case zz2=>rfl))
  (case c45=>refine L2.aB ?_; k_is)
  (case a46=>refine L2.ao ?_; k_is)
  (case l46=>refine L2.av ?zz1 ?zz2; (case zz1=>k_is); (case zz2=>rfl))
  (case c46=>refine L2.aB ?_; k_is)
  (case aLe=>refine L2.ao ?_; k_is)
  (case aLo=>refine L2.ao ?_; k_is)
  (case aFe=>refine L2.ao ?_; k_is)
  (case aMo=>refine L2.ao ?_; k_is)
  (case aLw=>refine L2.ao ?_; k_is)
  (case m0=>refine L2.ao ?_; k_is)
  (case m1=>refine L2.ao ?_; k_is)
  (case m2=>refine L2.ao ?_; k_is)
  (case m3=>refine L2.ao ?_; k_is)
  (case m4=>refine L2.ao ?_; k_is)
  (case m5=>refine L2.ao ?_; k_is)
  (case m6=>refine L2.ao ?_; k_is)
  (case m7=>refine L2.ao ?_; k_is)
  (case m8=>refine L2.ao ?_; k_is)
  (case m9=>refine L2.ao ?_; k_is)
  (case m10=>refine L2.ao ?_; k_is)
  (case m11=>refine L2.ao ?_; k_is)
  (case m12=>refine L2.ao ?_; k_is)
  (case m13=>refine L2.ao ?_; k_is)
  (case m14=>refine L2.ao ?_; k_is)
  (case q1=>kernel_rfl)
  (case q0=>kernel_rfl)
  (case q2=>kernel_rfl)
  (case q3=>kernel_rfl)
  (case q6=>kernel_rfl)
  (case qb=>kernel_rfl)
  (case q7=>kernel_rfl)
  (case q4=>kernel_rfl)
  (case q5=>kernel_rfl)
  (case q8=>kernel_rfl)
  (case q9=>kernel_rfl)
  (case r1=>kernel_rfl)
  (case r2=>kernel_rfl)
  (case r3=>kernel_rfl)
  (case n2=>kernel_rfl)
  (case d2=>kernel_rfl)
  (case t2=>kernel_rfl)
  (case n3=>kernel_rfl)
  (case d3=>kernel_rfl)
  (case t3=>kernel_rfl)
  (case n4=>kernel_rfl)
  (case d4=>kernel_rfl)
  (case t4=>kernel_rfl)
  (case n5=>kernel_rfl)
  (case d5=>kernel_rfl)
  (case t5=>kernel_rfl)
  (case n6=>kernel_rfl)
  (case d6=>kernel_rfl)
  (case t6=>kernel_rfl)
  (case n7=>kernel_rfl)
  (case d7=>kernel_rfl)
  (case t7=>kernel_rfl)
  (case n8=>kernel_rfl)
  (case d8=>kernel_rfl)
  (case t8=>kernel_rfl)
  (case n9=>kernel_rfl)
  (case d9=>kernel_rfl)
  (case t9=>kernel_rfl)
  (case n10=>kernel_rfl)
  (case d10=>kernel_rfl)
  (case t10=>kernel_rfl)
  (case n11=>kernel_rfl)
  (case d11=>kernel_rfl)
  (case t11=>kernel_rfl)
  (case n12=>kernel_rfl)
  (case d12=>kernel_rfl)
  (case t12=>kernel_rfl)
  (case n13=>kernel_rfl)
  (case d13=>kernel_rfl)
  (case t13=>kernel_rfl)
  (case n14=>kernel_rfl)
  (case d14=>kernel_rfl)
  (case t14=>kernel_rfl)
  (case excB=>kernel_rfl)
  (case zve=>refine L2.ao ?_; k_is)
  (case z_isi=>refine L2.ao ?_; k_is)
  (case z_int=>refine L2.ao ?_; k_is)
  (case z_bool=>refine L2.ao ?_; k_is)
  (case z_tuple=>refine L2.ao ?_; k_is)
  (case z_abs=>refine L2.ao ?_; k_is)
  (case z_len=>refine L2.ao ?_; k_is)
  (case z_enum=>refine L2.ao ?_; k_is)
  (case z_str=>refine L2.ao ?_; k_is)
  (case z_range=>refine L2.ao ?_; k_is)
  (case z_max=>refine L2.ao ?_; k_is)
  (case z_all=>refine L2.ao ?_; k_is)
  (case z_set=>refine L2.ao ?_; k_is)
  (case z_list=>refine L2.ao ?_; k_is)
  (case z_min=>refine L2.ao ?_; k_is)
  (case z_sum=>refine L2.ao ?_; k_is)
  (case z_dict=>refine L2.ao ?_; k_is)
  (case z_any=>refine L2.ao ?_; k_is)
  (case z_reversed=>refine L2.ao ?_; k_is)
  (case z_sorted=>refine L2.ao ?_; k_is)
