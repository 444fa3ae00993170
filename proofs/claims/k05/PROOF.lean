import PyProof.Rows.All
import Wide.All
import OpenK.AllK
import Wide.FinOn
import Lean
import PyProof.EqAt
import PyProof.EqKinds
import PyProof.NeKinds
import PyProof.TupleCall
import PyProof.SetRoads
import PyProof.SetNew
import PyProof.Rows.Range3
import KE.KRevSl
import PyProof.SliceStr2
import PyProof.ListStr
import PyProof.TupleOfStr
import PyProof.StrCalls
import KE.KDictOf
import PyProof.AttrMissHeap
import PyProof.Rows.SumAny
import PyProof.ConsumeWalk
import PyProof.SeqI3
import KE.KStar
import PyProof.SumWalkG
import PyProof.DictValues
import PyProof.ZipIter
import PyProof.Draws
import PyProof.DictIter
import PyProof.Rows.SortWalk
import PyProof.Rows.SetFrom
import PyProof.StrOps2
import PySem.Challenge.RW_dearsigns_k05_what_is_no_tongue
set_option Elab.async false
set_option linter.all false
set_option maxRecDepth 100000
set_option maxHeartbeats 4000000
set_option exponentiation.threshold 5000
namespace HD
open PySem PySem.W PySem.Calls PyProof.Rows
noncomputable def bootT (P:Params):BT:=.node (boot_o_0 P) (.node (boot_o_1 P) (.node (boot_o_3 P) (.node (boot_o_7 P) .nil .nil) .nil) (.node (boot_o_5 P) (.node (boot_o_9 P) .nil .nil) .nil)) (.node (boot_o_2 P) (.node (boot_o_4 P) (.node (boot_o_8 P) .nil .nil) .nil) (.node (boot_o_6 P) (.node (boot_o_10 P) .nil .nil) .nil))
theorem size_boot (P:Params):((boot_heap P).isNs mainGlobals,(boot_heap P).objs.size,(boot_heap P).nsMap mainGlobals "__annotations__")=(true,11,some (.ref 6)):=by kernel_rfl
structure SM where
 T:BT
 n:Nat
 k:Nat
 D:List DictEntry
 pl:List Value
 nm:Value
noncomputable def key (P:Params) (x:Str) (t:Nat) (v:Value):DictEntry:=⟨PyData.keyHash P x,.str x t,v⟩
noncomputable def SM.put (s:SM) (o:Obj):SM:={s with T:=s.T.ins s.n o,n:=s.n + 1}
noncomputable def SM.puts (s:SM):List Obj→SM
 | []=>s
 | o :: r=>(s.put o).puts r
noncomputable def tup (vs:List Value):Obj:={cls:=.type "tuple",data:=.seq vs.toArray}
noncomputable def txts:List Str→Nat→List Value
 | [],_=>[]
 | x :: r,t=>.str x t :: txts r (t + 1)
noncomputable def theFile:Str:="/claim/cut.py"
structure CO where
 objs:List Obj
 k:Nat
 a:Nat
noncomputable def raw (n:Nat):Value:=.int n 0
noncomputable def codeObjs (n k:Nat) (name qual:Str) (line argc flags:Nat) (fn:Bool) (free:List Str) (pls:List Value) (loc:Option (List Str × List Str)) (tm:Option FuncData):CO:=
 let f:=free.length
 let o1:=[tup (txts free (k + 3)),{cls:=.none,data:=.fields pls.toArray}]
 let k1:=k + 3 + f
 let (o2,k2,n2,l,c):=match loc with
  | none=>([],k1,n + 2,Value.none,Value.none)
  | some (ls,cs)=>([tup (txts ls k1),tup (txts cs (k1 + ls.length))],k1 + ls.length + cs.length,n + 4,Value.ref (n + 2),Value.ref (n + 3))
 let (o3,n3,t):=match tm with
  | none=>([],n2,Value.none)
  | some fd=>([({cls:=.none,data:=.func fd}:Obj)],n2 + 1,Value.ref n2)
 {objs:=o1 ++ o2 ++ o3 ++ [{cls:=.type "code",data:=.fields #[.str name k,.str qual (k + 1),.str theFile (k + 2),raw line,raw argc,raw 0,raw 0,raw flags,.ref n,.bool fn,raw 181,.ref (n + 1),.none,l,c,t,raw k2,raw line,.str theFile (k2 + 1)]}]
  k:=k2 + 2
  a:=n3}
noncomputable def SM.store (P:Params) (s:SM) (x:Str) (v:Value):SM:=
 match s.D with
 | e :: r=>match Fast.sEq x "__name__" with
  | true=>{s with D:=⟨e.hash,e.key,v⟩ :: r,k:=s.k + 1,nm:=v}
  | false=>{s with D:=e :: r ++ [key P x s.k v],k:=s.k + 1}
 | []=>s
noncomputable def constVals:List Expr→Nat→List Value × Nat
 | .Constant (.int i) _ _ :: r,k=>let (vs,k'):=constVals r (k + 1); (.int i k :: vs,k')
 | .Constant (.str i) _ _ :: r,k=>let (vs,k'):=constVals r (k + 1); (.str i k :: vs,k')
 | .Constant (.bool b) _ _ :: r,k=>let (vs,k'):=constVals r k; (.bool b :: vs,k')
 | _ :: r,k=>let (vs,k'):=constVals r k; (.none :: vs,k')
 | [],k=>([],k)
noncomputable def templ (name qual:Str) (args:Arguments) (body:List Stmt) (scope:Scope):FuncData:=
 {name,qualname:=qual,params:=args,body:=.stmts body,scope,globals:=builtinsNs,closure:=[],defaults:=.none,kwdefaults:=.none}
noncomputable def simFn (P:Params) (s:SM) (name:Str) (args:Arguments) (body:List Stmt) (scope:Scope) (pos:Pos):SM:=
 let (dv,s):=match args.defaults with
  | []=>(Value.none,s)
  | d :: ds=>let (vs,k'):=constVals (d :: ds) s.k; (Value.ref s.n,({s with k:=k'}:SM).put (tup vs))
 let c:=codeObjs s.n s.k name name pos.line args.args.length 3 true [] [] (localNames args scope (.stmts body)) (some (templ name name args body scope))
 let s1:=s.puts c.objs
 let s2:SM:={s1 with k:=c.k,pl:=s1.pl ++ [raw pos.line,raw pos.col,.ref c.a]}
 let f:=s2.n
 let s3:=s2.put {cls:=.type "function",data:=.func {templ name name args body scope with globals:=mainNs,defaults:=dv,pyModule:=s.nm,code:=.ref c.a}}
 s3.store P name (.ref f)
noncomputable def findD (x:Str):List DictEntry→Value
 | []=>.none
 | e :: r=>match e.key with
  | .str y _=>match Fast.sEq x y with
   | true=>e.val
   | false=>findD x r
  | _=>findD x r
noncomputable def addSub (v:Value) (o:Obj):Obj:=match o.data with
 | .cls c=>{o with data:=.cls {c with subclasses:=c.subclasses ++ [v]}}
 | _=>o
structure IOb where
 objs:List Obj
 pls:List Value
 es:List DictEntry
 k:Nat
noncomputable def simInit (P:Params) (cell n k:Nat) (cn:Str) (nm:Value):List Stmt→IOb
 | .FunctionDef name args body _ _ _ scope _ _ pos :: _=>
  let qual:Str:=cn ++ "." ++ name
  let c:=codeObjs (n + 1) k name qual pos.line args.args.length 3 true ["__class__"] [] (localNames args scope (.stmts body)) (some (templ name qual args body scope))
  let f:=c.a + 1
  {objs:=tup [.ref cell] :: c.objs ++ [{cls:=.type "function",data:=.func {templ name qual args body scope with globals:=mainNs,closure:=[("__class__",cell)],pyModule:=nm,code:=.ref c.a,closureTuple:=.ref n}}]
   pls:=[raw pos.line,raw pos.col,.ref c.a]
   es:=[key P name c.k (.ref f)]
   k:=c.k + 1}
 | _=>⟨[],[],[],k⟩
noncomputable def excTypes:List Value:=[.type "ValueError",.type "Exception",.type "BaseException",.type "object"]
noncomputable def simCls (P:Params) (s:SM) (name base:Str) (body:List Stmt) (statics:List Str) (pos:Pos):SM:=
  let root:=Fast.sEq base "ValueError"
  let bv:Value:=match root with | true=>.type "ValueError" | false=>findD base s.D
  let own:=match body with | .FunctionDef .. :: _=>true | _=>false
  let (n,k):=(s.n,s.k)
  let nsA:=n + 2
  let c0:=match own with | true=>n + 4 | false=>n + 3
  let fr:=c0 + 3
  let i:=simInit P (n + 3) (fr + 1) (k + 12) name s.nm body
  let cc:=codeObjs c0 (k + 2) name name pos.line 0 0 false [] i.pls none none
  let a:=fr + 1 + i.objs.length
  let st:=i.k + statics.length
  let ns2:=a + 1
  let cls:=a + 2
  let e1:=key P "__module__" (k + 7) s.nm
  let e3:=key P "__firstlineno__" (k + 11) (.int pos.line (k + 10))
  let e5:=key P "__static_attributes__" st (.ref a)
  let (k5,cellE,cellO):=match own with
    | true=>(st + 2,[key P "__classcell__" (st + 1) (.ref (n + 3))],[({cls:=.type "cell",data:=.cell (some (.ref cls))}:Obj)])
    | false=>(st + 1,[],[])
  let (k6,weakE,weakO):=match root with
    | true=>(k5 + 2,[key P "__weakref__" (k5 + 1) (.ref (cls + 1))],[({cls:=.type "getset_descriptor",data:=.fields #[.str "__weakref__" k5,.ref cls,.builtin "ExceptionGroup.__weakref__",.none]}:Obj)])
    | false=>(k5,[],[])
  let nsE:=[e1,key P "__qualname__" (k + 9) (.str name (k + 8)),e3] ++ i.es ++ [e5] ++ cellE
  let ns2E:=[e1,e3] ++ i.es ++ [e5] ++ weakE ++ [key P "__doc__" k6 .none]
  let mro:=match root with | true=>Value.ref cls :: excTypes | false=>Value.ref cls :: bv :: excTypes
  let objs:List Obj:=[tup [bv],{cls:=.type "builtin_function_or_method",data:=.fields #[.builtin "type.__prepare__",.type "type"]},{cls:=.type "dict",data:=.dict nsE.toArray nsE.length}] ++ cellO ++ cc.objs ++
    [{cls:=.type "frame",slots:=#[some (.ref (c0 + 2)),some (.ref mainNs),some (.ref nsA),none,some s.nm,none,some (.ref builtinsNs)]}] ++ i.objs ++
    [tup (txts statics i.k),{cls:=.type "dict",data:=.dict ns2E.toArray (ns2E.length - 2)},
     {cls:=.type "type",data:=.cls {name,bases:=[bv],mro,ns:=ns2,qualname:=name},slots:=#[some (.ref n),none,some (.str name k),some (.str name (k + 8)),some (.builtin "ValueError.__new__"),some (.bool true)]}] ++ weakO ++
    [{cls:=.type "super",data:=.fields #[.ref cls,.ref cls,.ref cls]},{cls:=.type "builtin_function_or_method",data:=.fields #[.builtin "object.__init_subclass__",.ref cls]}]
  let s1:=s.puts objs
  let s2:SM:={s1 with k:=k6 + 2,pl:=s1.pl ++ [raw pos.line,raw pos.col,.ref (c0 + 2)],T:=match bv with | .ref b=>s1.T.set b (addSub (.ref cls)) | _=>s1.T}
  s2.store P name (.ref cls)
noncomputable def simOne (P:Params) (s:SM):Stmt→SM
 | .Assign (.Name x _ :: _) (.Constant (.str v) _ _) _=>({s with k:=s.k + 1}:SM).store P x (.str v s.k)
 | .Assign (.Name x _ :: _) (.Constant (.int v) _ _) _=>({s with k:=s.k + 1}:SM).store P x (.int v s.k)
 | .Assign (.Name x _ :: _) (.BinOp (.Constant (.int a) _ _) _ (.Constant (.int b) _ _) _) _=>({s with k:=s.k + 3}:SM).store P x (.int (a ^ b.toNat) (s.k + 2))
 | .Assign (.Name x _ :: _) (.Tuple es _ _) _=>let (vs,k'):=constVals es s.k; (({s with k:=k'}:SM).put (tup vs)).store P x (.ref s.n)
 | .FunctionDef name args body _ _ _ scope _ _ pos=>simFn P s name args body scope pos
 | .ClassDef name (.Name b _ :: _) _ body _ _ _ _ _ statics pos=>simCls P s name b body statics pos
 | _=>s
noncomputable def simAll (P:Params) (s:SM):List Stmt→SM
 | []=>s
 | x :: r=>simAll P (simOne P s x) r
noncomputable def endPos (p:Pos):Stmt→Pos
 | .Assign (.Name _ q :: _) _ _=>q
 | .FunctionDef _ _ _ _ _ _ _ _ _ q=>q
 | .ClassDef _ _ _ _ _ _ _ _ _ _ q=>q
 | _=>p
noncomputable def endPoses (p:Pos):List Stmt→Pos
 | []=>p
 | x :: r=>endPoses (endPos p x) r
noncomputable def sim0 (P:Params):SM:=
 SM.puts ⟨bootT P,11,187,[key P "__name__" 165 (.str "__main__" 164),key P "__doc__" 166 .none,key P "__package__" 167 .none,key P "__loader__" 168 (.builtin "__main__.__loader__#opaque"),key P "__spec__" 169 .none,key P "__annotations__" 170 (.ref 6),
  key P "__builtins__" 171 (.ref 4),key P "__file__" 173 (.str theFile 172),key P "__cached__" 174 .none],[],.str "__main__" 164⟩
  ((codeObjs 11 182 "<module>" "<module>" 1 0 0 false [] [] none none).objs ++ [{cls:=.type "frame",slots:=#[some (.ref 13),some (.ref mainNs),some (.ref mainNs),none,some (.str "__main__" 164),none,some (.ref builtinsNs)]}])
structure St where
 sim:Params→SM
 pos:Pos
noncomputable def SM.tree (s:SM):BT:=(s.T.set mainNs fun _=>{cls:=.type "dict",data:=.dict s.D.toArray s.D.length}).set 12 fun _=>{cls:=.none,data:=.fields s.pl.toArray}
noncomputable def St.at (S:St) (P:Params) (os:OsState):SharedT:=⟨(S.sim P).tree,(S.sim P).n,{},Array.mk [],boot_drawn,(S.sim P).k,os⟩
noncomputable def St.step (S:St) (l:List Stmt):St:=⟨fun P=>simAll P (S.sim P) l,endPoses S.pos l⟩
noncomputable def St0:St:=⟨sim0,⟨0,0,0,0⟩⟩
abbrev pos0:Pos:=⟨0,0,0,0⟩
noncomputable def envOf (p:Program):Env:={scope:=p.main.scope,locals:=mainNs,globals:=mainNs,cells:=[],code:=.ref 13,frame:=some 14}
noncomputable def cOf (p:Program):Code:=.body (behindTheImports p) (envOf p)
abbrev annO:Option Value:=some (.ref 6)
abbrev Piece (p:Program) (l:List Stmt) (m:Nat) (A B:St):Prop:=
 ∀w:World,(fun os=>segRunT treeTable p w 11 annO 1 m (A.at w.params os) (piecesOf l (envOf p) (cOf p) A.pos [topFrame pos0]))=fun os=>some (.next,B.at w.params os,cOf p,B.pos)
inductive Chain (p:Program):List Stmt→Nat→St→St→Prop
 | nil (S:St):Chain p [] 0 S S
 | cons {l r:List Stmt} {m n:Nat} {A B C:St} (h:Piece p l m A B) (t:Chain p r n B C):Chain p (l ++ r) (m + n) A C
theorem fin_run {tb:String→Option Builtin} {p:Program} {w:World} {n₀:Nat} {ann:Option Value} {c:Code} {pos q:Pos} (s:Shared):topRun tb p w n₀ ann 2 s ⟨doneF .next,c,pos,[topFrame q]⟩=some s:=by
 obtain ⟨a,b,d,e,f⟩:=s
 rfl
theorem chain_run {p:Program} {w:World} {os:OsState} {b:List Stmt} {n:Nat} {A C:St} (h:Chain p b n A C) :
  topRun treeTable p w 11 annO (n + 2) (A.at w.params os).abs (restOf b (envOf p) (cOf p) A.pos [topFrame pos0])=some (C.at w.params os).abs:=by
 induction h with
 | nil S=>exact piece_nil (fin_run _)
 | cons h _ ih=>
  have e:=segRun_of (congrFun (h w) os)
  rw [Nat.add_assoc]
  exact piece_app e ih
abbrev Pre (p:Program):Prop:=∀w:World,(fun os=>topGo treeTable p w 11 annO 12 ⟨boot_heap w.params,Array.mk [],boot_drawn,boot_toks,os⟩ (topStub p))=fun os=>some ((St0.at w.params os).abs,⟨denote treeTable (cOf p),cOf p,pos0,[topFrame pos0]⟩)
abbrev Blk (p:Program):Prop:=∀(w:World) (hp:Heap) (gs:Array GenState) (d:Drawn) (k:Nat) (os:OsState),
 segRun treeTable p w 11 annO 1 1 ⟨hp,gs,d,k,os⟩ (blockOf (behindTheImports p) (envOf p) (cOf p) pos0 [topFrame pos0])=some (.next,⟨hp,gs,d,k,os⟩,cOf p,pos0)
abbrev Look1 (p:Program) (C:St):Prop:=∀w:World,(fun os=>staticsOk (importedModules p.main.body) (boot_heap w.params) (C.at w.params os).abs.heap && namesBound p (C.at w.params os).abs.heap && gensDone (C.at w.params os).abs && laidKept (boot_heap w.params) (C.at w.params os).abs.heap)=fun _=>true
theorem left_cut {p q:Program} {loose:List Str} {Xt:Shared→Bool} {α:Type} {Yf:Shared→α} {Ya:World→α} {N n:Nat} {g0:Bool} {b:List Stmt} {C:St}
  (e:opening p=plainProg p.main.scope.names) (hN:Nat.ble 600 N=true) (f:∀s,fenceModules? p s=some s)
  (pre:Pre p) (blk:Blk p) (hb:behindTheImports p=b) (ch:Chain p b n St0 C) (le:Nat.ble (12 + (1 + (n + 2))) N=true)
  (k1:Look1 p C) (k2:∀w:World,(fun os=>openSeen q loose (importedModules p.main.body) Xt g0 (C.at w.params os).abs)=fun _=>openGood q loose) (k3:∀w:World,(fun os=>Yf (C.at w.params os).abs)=fun _=>Ya w) :
  LeftO p q loose Xt Yf Ya N g0:=fun w=>by
 obtain ⟨⟨hp,gs,d,k,os⟩,a,a'⟩:=Option.map_eq_some_iff.mp (boot_open e hN f w)
 obtain ⟨rfl,rfl,rfl,rfl⟩:hp=boot_heap w.params∧gs = #[]∧d=boot_drawn∧k=boot_toks:=by simpa using a'
 obtain ⟨z1,z2,z3⟩:_∧_∧_:=by simpa only [Prod.mk.injEq] using size_boot w.params
 have r1:=chain_run (w:=w) (os:=os) ch
 rw [← hb] at r1
 have r2:=piece_block (blk w _ _ _ _ _) r1
 have r3:=go_top (congrFun (pre w) os) r2
 have r':=topRun_mono (N - (12 + (1 + (n + 2)))) _ _ _ _ r3
 rw [show 12 + (1 + (n + 2)) + (N - (12 + (1 + (n + 2))))=N by have:=Nat.le_of_ble_eq_true le; omega] at r'
 have l1:=congrFun (k1 w) os
 have t:topFrom treeTable p w N ⟨boot_heap w.params,#[],boot_drawn,boot_toks,os⟩=some (C.at w.params os).abs:=by
  unfold topFrom
  dsimp only
  rw [z1,z2,z3,r']
  show (match staticsOk (importedModules p.main.body) (boot_heap w.params) (C.at w.params os).abs.heap && namesBound p (C.at w.params os).abs.heap && gensDone (C.at w.params os).abs && laidKept (boot_heap w.params) (C.at w.params os).abs.heap with | true=>_ | false=>_)=_
  rw [l1]
 unfold openEnds
 rw [a]
 show (topFrom treeTable p w N _).map _=_
 rw [t]
 exact congrArg some (Prod.ext (congrFun (k2 w) os) (congrFun (k3 w) os))
end HD
namespace HP
open PySem PySem.W HD
noncomputable def pq:Program:=PySem.Challenge.pw_dearsigns_k05_what_is_no_tongue
theorem e1:opening pq=plainProg pq.main.scope.names:=by kernel_rfl
theorem e2 (s):fenceModules? pq s=some s:=by kernel_rfl
theorem pre:Pre pq:=fun w=>by kernel_rfl
theorem blk:Blk pq:=fun w _ _ _ _ _=>by kernel_rfl
noncomputable def b0:List Stmt:=behindTheImports pq
noncomputable def S0:St:=St0
noncomputable def l0:List Stmt:=b0.take 5
noncomputable def b1:List Stmt:=b0.drop 5
noncomputable def S1:St:=S0.step l0
theorem q0:Piece pq l0 835 S0 S1:=fun w=>by kernel_rfl
noncomputable def l1:List Stmt:=b1.take 4
noncomputable def b2:List Stmt:=b1.drop 4
noncomputable def S2:St:=S1.step l1
theorem q1:Piece pq l1 853 S1 S2:=fun w=>by kernel_rfl
noncomputable def l2:List Stmt:=b2.take 4
noncomputable def b3:List Stmt:=b2.drop 4
noncomputable def S3:St:=S2.step l2
theorem q2:Piece pq l2 949 S2 S3:=fun w=>by kernel_rfl
noncomputable def l3:List Stmt:=b3.take 13
noncomputable def b4:List Stmt:=b3.drop 13
noncomputable def S4:St:=S3.step l3
theorem q3:Piece pq l3 1001 S3 S4:=fun w=>by kernel_rfl
noncomputable def l4:List Stmt:=b4.take 38
noncomputable def b5:List Stmt:=b4.drop 38
noncomputable def S5:St:=S4.step l4
theorem q4:Piece pq l4 971 S4 S5:=fun w=>by kernel_rfl
noncomputable def l5:List Stmt:=b5.take 14
noncomputable def S6:St:=S5.step l5
theorem q5:Piece pq l5 426 S5 S6:=fun w=>by kernel_rfl
theorem chain:Chain pq (l0 ++ (l1 ++ (l2 ++ (l3 ++ (l4 ++ (l5 ++ [])))))) (835 + (853 + (949 + (1001 + (971 + (426 + (0))))))) S0 S6:=.cons q0 (.cons q1 (.cons q2 (.cons q3 (.cons q4 (.cons q5 (Chain.nil S6))))))
theorem body:behindTheImports pq=l0 ++ (l1 ++ (l2 ++ (l3 ++ (l4 ++ (l5 ++ []))))):=by kernel_rfl
theorem look1:Look1 pq S6:=fun w=>by kernel_rfl
end HP
namespace HD
open PySem PySem.W PySem.Calls PyProof.Rows
noncomputable def getT (T:BT) (n a:Nat):Option Obj:=match Nat.blt a n with
 | true=>alive ((T.get a).getD default)
 | false=>none
theorem get_abs (T:BT) (n:Nat) (life:Life) (a:Nat):(absHeap T n life).get? a=getT T n a:=by
 unfold getT Heap.get?
 rw [absHeap_at]
 by_cases h:a < n
 ·have e:Nat.blt a n=true:=by rw [Nat.blt_eq]; exact h
  rw [if_pos h,e]
  cases (T.get a).getD default with
  | mk c d dt sl=>cases dt <;> rfl
 ·have e:Nat.blt a n=false:=by
   cases q:Nat.blt a n with
   | false=>rfl
   | true=>rw [Nat.blt_eq] at q; exact absurd q h
  rw [if_neg h,e]
theorem left_cutZ {p q:Program} {loose:List Str} {Xt:Shared→Bool} {as:List Addr} {Ya:World→List (Option Obj) × Nat × Nat} {N n:Nat} {g0:Bool} {b:List Stmt} {C:St}
  (e:opening p=plainProg p.main.scope.names) (hN:Nat.ble 600 N=true) (f:∀s,fenceModules? p s=some s)
  (pre:Pre p) (blk:Blk p) (hb:behindTheImports p=b) (ch:Chain p b n St0 C) (le:Nat.ble (12 + (1 + (n + 2))) N=true)
  (k1:Look1 p C) (k2:∀w:World,(fun os=>openSeen q loose (importedModules p.main.body) Xt g0 (C.at w.params os).abs)=fun _=>openGood q loose)
  (k3:∀w:World,(as.map (getT (C.sim w.params).tree (C.sim w.params).n),(C.sim w.params).n,(C.sim w.params).k)=Ya w) :
  LeftO p q loose Xt (X.obsZ as) Ya N g0:=by
 refine left_cut e hN f pre blk hb ch le k1 k2 fun w=>funext fun os=>?_
 rw [← k3 w]
 have e1:as.map (C.at w.params os).abs.heap.get? = as.map (getT (C.sim w.params).tree (C.sim w.params).n):=by
  congr 1
  funext a
  exact get_abs _ _ _ a
 have e2:(C.at w.params os).abs.heap.objs.size=(C.sim w.params).n:=absHeap_size _ _ _
 unfold X.obsZ
 rw [e1,e2]
 rfl
end HD
namespace L2
open PySem PySem.Spec PyProof.Rows
abbrev Key:=Sum Int Str
def keyIs:Key→Value→Bool
 | .inl k,v=>Value.isInt k v
 | .inr x,v=>Value.isStrOf x v
def keyH (w:World):Key→Int
 | .inl k=>hashInt k
 | .inr x=>hashStr w x
theorem keyIs_shape:∀{k:Key} {v:Value},keyIs k v=true→(∃i t,k=Sum.inl i∧v=Value.int i t)∨(∃x t,k=Sum.inr x∧v=Value.str x t)
 | .inl i,v,h=>by
  obtain ⟨t,e⟩:=Value.isInt_shape (k:=i) (v:=v) h
  exact .inl ⟨i,t,rfl,e⟩
 | .inr x,v,h=>by
  obtain ⟨t,e⟩:=Value.isStrOf_shape (x:=x) (v:=v) h
  exact .inr ⟨x,t,rfl,e⟩
theorem keyIs_str (x:Str) (t:Tok):keyIs (.inr x) (.str x t)=true:=by simp [keyIs,Value.isStrOf]
theorem key_ll (a b:Int):decide ((Sum.inl a:Key)=Sum.inl b)=(a == b):=by
 by_cases e:a=b
 ·subst e; simp
 ·have h:¬(Sum.inl a:Key)=Sum.inl b:=fun q=>e (Sum.inl.inj q)
  rw [decide_eq_false h]
  exact (beq_eq_false_iff_ne.mpr e).symm
theorem key_rr (a b:Str):decide ((Sum.inr a:Key)=Sum.inr b)=decide (a=b):=by
 by_cases e:a=b
 ·subst e; simp
 ·have h:¬(Sum.inr a:Key)=Sum.inr b:=fun q=>e (Sum.inr.inj q)
  rw [decide_eq_false h,decide_eq_false e]
theorem key_lr (a:Int) (b:Str):decide ((Sum.inl a:Key)=Sum.inr b)=false:=decide_eq_false (fun q=>nomatch q)
theorem key_rl (a:Str) (b:Int):decide ((Sum.inr a:Key)=Sum.inl b)=false:=decide_eq_false (fun q=>nomatch q)
def mixKind (prog:Program) (w:World):PySem.KeyKind prog w Key where
 is:=keyIs
 hash:=keyH w
 inj:=fun v a b ha hb=>by
  rcases keyIs_shape ha with ⟨i,t,rfl,rfl⟩ | ⟨x,t,rfl,rfl⟩
  ·rcases keyIs_shape hb with ⟨j,u,rfl,e⟩ | ⟨y,u,rfl,e⟩
   ·injection e with e1 _; rw [e1]
   ·exact nomatch e
  ·rcases keyIs_shape hb with ⟨j,u,rfl,e⟩ | ⟨y,u,rfl,e⟩
   ·exact nomatch e
   ·injection e with e1 _; rw [e1]
 byValue:=fun k v h=>by
  rcases keyIs_shape h with ⟨i,t,rfl,rfl⟩ | ⟨x,t,rfl,rfl⟩ <;> rfl
 pyHash:=fun hv h=>by
  rcases keyIs_shape hv with ⟨i,t,rfl,rfl⟩ | ⟨x,t,rfl,rfl⟩
  ·exact wpAny_pyHash_int h
  ·exact wpAny_pyHash_str h
 eqBool:=fun hu hv h=>by
  rcases keyIs_shape hu with ⟨i,t,rfl,rfl⟩ | ⟨x,t,rfl,rfl⟩
  ·rcases keyIs_shape hv with ⟨j,u,rfl,rfl⟩ | ⟨y,u,rfl,rfl⟩
   ·rw [key_ll] at h; exact wpAny_eqBool_int h
   ·rw [key_lr] at h; exact SeqAt.EqAt.int_str i t y u _ _ _ _ h
  ·rcases keyIs_shape hv with ⟨j,u,rfl,rfl⟩ | ⟨y,u,rfl,rfl⟩
   ·rw [key_rl] at h; exact SeqAt.EqAt.str_int x t j u _ _ _ _ h
   ·rw [key_rr] at h; exact wpAny_eqBool_str h
 «strs»:=fun k x t v h=>by
  rcases keyIs_shape h with ⟨i,u,rfl,e⟩ | ⟨y,u,rfl,e⟩
  ·exact nomatch e
  ·injection e with e1 _
   subst e1
   cases v <;> rfl
theorem mixKind_str (prog:Program) (w:World) (x:Str) (t:Tok):(mixKind prog w).is (.inr x) (.str x t)=true:=keyIs_str x t
inductive V where
 | non | bl (b:Bool) | int (i:Int) | str (x:Str) | byt (b:Array UInt8) | flt (b:UInt64) | ref (a:Addr) | ty (n:String)
 deriving DecidableEq
def RelV:V→Value→Prop
 | .non,u=>u=Value.none
 | .bl b,u=>u=Value.bool b
 | .int i,u=>∃t,u=Value.int i t
 | .str x,u=>∃t,u=Value.str x t
 | .byt b,u=>∃t,u=Value.bytes b t
 | .flt b,u=>∃t,u=Value.float b t
 | .ref a,u=>u=Value.ref a
 | .ty n,u=>u=Value.type n
abbrev Vals:List V→List Value→Prop:=Paired RelV
theorem Vals.length {xs:List V} {us:List Value} (r:Vals xs us):xs.length=us.length:=Paired.length r
theorem Vals.get:∀{xs:List V} {us:List Value} {i:Nat} {x:V},Vals xs us→xs[i]? = some x→∃u,us[i]? = some u∧RelV x u
 | _,_,_,_,.nil,e=>by simp at e
 | _,_,0,_,.cons r _,e=>by simp at e; subst e; exact ⟨_,rfl,r⟩
 | _,_,i + 1,x,.cons _ t,e=>by
  obtain ⟨u,h1,h2⟩:=Vals.get (i:=i) (x:=x) t (by simpa using e)
  exact ⟨u,by simpa using h1,h2⟩
theorem Vals.set {x:V} {u:Value} (r:RelV x u):∀{xs:List V} {us:List Value} (i:Nat),Vals xs us→Vals (xs.set i x) (us.set i u)
 | _,_,_,.nil=>.nil
 | _,_,0,.cons _ t=>.cons r t
 | _,_,i + 1,.cons q t=>.cons q (Vals.set r i t)
theorem Vals.append:∀{xs ys:List V} {us ws:List Value},Vals xs us→Vals ys ws→Vals (xs ++ ys) (us ++ ws)
 | _,_,_,_,.nil,s=>s
 | _,_,_,_,.cons r t,s=>.cons r (Vals.append t s)
theorem Vals.take:∀{xs:List V} {us:List Value} (n:Nat),Vals xs us→Vals (xs.take n) (us.take n)
 | _,_,0,_=>.nil
 | _,_,_ + 1,.nil=>.nil
 | _,_,n + 1,.cons r t=>.cons r (Vals.take n t)
theorem Vals.drop:∀{xs:List V} {us:List Value} (n:Nat),Vals xs us→Vals (xs.drop n) (us.drop n)
 | _,_,0,r=>r
 | _,_,_ + 1,.nil=>.nil
 | _,_,n + 1,.cons _ t=>Vals.drop n t
def RelO:Option V→Option Value→Prop
 | some v,some u=>RelV v u
 | none,none=>True
 | _,_=>False
def KV {κ:Type}:List (κ × V)→List (κ × Value)→Prop:=Paired fun (p:κ × V) (q:κ × Value)=>p.1=q.1∧RelV p.2 q.2
def kV:Key→V
 | .inl i=>.int i
 | .inr x=>.str x
inductive HO where
  | lst (xs:List V)
  | tup (xs:List V)
  | dK (kvs:List (Key × V)) | dT (kvs:List (List Key × V))
  | set (S:Int→Bool) (n:Nat)
  | ins (C dx:Addr) (fs:List (Str × V))
  | own (x:Addr)
  | xd (fs:List (Str × V))
  | met (f x:Addr)
  | rng (lo hi:Int)
  | frz (o:Obj) (u:HO)
  | tbl (ps:Array Value)
  | ext (φ:Heap→Prop)
abbrev Hp:=Addr→Option HO
def upd (H:Hp) (a:Addr) (o:HO):Hp:=fun b=>if b=a then some o else H b
theorem upd_same {H:Hp} {a:Addr} {o:HO}:upd H a o a=some o:=by unfold upd; rw [if_pos rfl]
theorem upd_ne {H:Hp} {a b:Addr} {o:HO} (h:b≠a):upd H a o b=H b:=by unfold upd; rw [if_neg h]
theorem ne_of_none {H:Hp} {a b:Addr} {o:HO} (h:H a=some o) (h':H b=none):a≠b:=by
 intro e; subst e; rw [h] at h'; cases h'
section
variable (P:Program) (w:World)
def ObjOk (H:Hp) (h:Heap) (a:Addr):HO→Prop
 | .lst xs=>xs.length≤sizeLine∧∃(its:List Value) (n:Nat),Vals xs its∧h.get? a=some {cls:=.type "list",data:=.seq its.toArray n}
 | .tup xs=>xs.length≤sizeLine∧∃its:List Value,Vals xs its∧IsTup h a its.toArray
 | .dK kvs=>kvs.length≤sizeLine∧(a == sysModules)=false∧∃vs,KV kvs vs∧h.DictOf (mixKind P w) a vs
 | .dT kvs=>kvs.length≤sizeLine∧(a == sysModules)=false∧∃xs:List (List Key × Addr × Value),
   Paired (fun (p:List Key × V) (q:List Key × Addr × Value)=>p.1=q.1∧H q.2.1=some (.tup (p.1.map kV))∧RelV p.2 q.2.2) kvs xs∧
   ∃o es ep,h.get? a=some o∧o.ExactDict∧o.data = .dict es ep∧es.toList=xs.map (entryOfKey (tupleKind (mixKind P w)))∧(xs.map (·.1)).Nodup
 | .set S n=>h.SetOf (intKind P w) a S n
 | .ins C dx fs=>H dx=some (.own a)∧fs.length≤1000∧dx≠a∧h.get? a=some (PySem.W.instObj C dx)∧
   ∃mA,h.Ns1 dx mA∧(∀f,RelO (fs.lookup f) (mA f))∧PySem.Within mA (fs.map (·.1))
 | .own _=>∃o,h.get? a=some o
 | .xd fs=>∃mA,h.Ns1 a mA∧∀f,RelO (fs.lookup f) (mA f)
 | .rng lo hi=>∃t u v,h.get? a=some {cls:=.type "range",data:=.fields #[.int lo t,.int hi u,.int 1 v]}
 | .frz o u=>h.get? a=some o∧ObjOk H h a u
 | .tbl ps=>h.get? a=some {cls:=.none,data:=.fields ps}
 | .met f x=>h.get? a=some (PySem.W.methodObj (.ref f) (.ref x))
 | .ext φ=>φ h∧(∃o,h.get? a=some o)∧∀h1 h2:Heap,φ h1→(∀o,h1.get? a=some o→h2.get? a=some o)→φ h2
def HOk (H:Hp) (h:Heap):Prop:=∀a o,H a=some o→ObjOk P w H h a o
end
section
variable {P:Program} {w:World} {H H':Hp} {h h':Heap} {a:Addr} {o:HO}
theorem ObjOk.lt (x:ObjOk P w H h a o):a < h.objs.size:=by
 cases o with
 | lst xs=>obtain ⟨_,_,_,_,e⟩:=x; exact Heap.lt_size e
 | tup xs=>obtain ⟨_,_,_,p⟩:=x; exact p.lt
 | dK kvs=>obtain ⟨_,_,_,_,o,_,_,e,_⟩:=x; exact Heap.lt_size e
 | dT kvs=>obtain ⟨_,_,_,_,o,_,_,e,_⟩:=x; exact Heap.lt_size e
 | set S n=>obtain ⟨o,_,_,_,e,_⟩:=x; exact Heap.lt_size e
 | ins C dx fs=>obtain ⟨_,_,_,e,_⟩:=x; exact Heap.lt_size e
 | own y=>obtain ⟨_,e⟩:=x; exact Heap.lt_size e
 | xd fs=>obtain ⟨_,⟨_,_,_,e,_⟩,_⟩:=x; exact Heap.lt_size e
 | rng lo hi=>obtain ⟨_,_,_,e⟩:=x; exact Heap.lt_size e
 | frz ob u=>obtain ⟨e,_⟩:=x; exact Heap.lt_size e
 | tbl ps=>exact Heap.lt_size (show h.get? a=some _ from x)
 | met f y=>exact Heap.lt_size (show h.get? a=some _ from x)
 | ext φ=>obtain ⟨_,⟨_,e⟩,_⟩:=x; exact Heap.lt_size e
theorem Paired.mapP {α β:Type} {F G:α→β→Prop}:∀{l₁:List α} {l₂:List β},Paired F l₁ l₂→(∀a b,F a b→G a b)→Paired G l₁ l₂
 | _,_,.nil,_=>.nil
 | _,_,.cons r t,f=>.cons (f _ _ r) (Paired.mapP t f)
theorem ObjOk.stay (x:ObjOk P w H h a o) (k:∀b u,(b=a∨H b=some (.own a))→h.get? b=some u→h'.get? b=some u)
  (ho:∀b,H b=some (.own a)→H' b=some (.own a)) (ht:∀b xs,H b=some (.tup xs)→H' b=some (.tup xs)):ObjOk P w H' h' a o:=by
 induction o with
 | lst xs=>obtain ⟨z,its,n,r,e⟩:=x; exact ⟨z,its,n,r,k _ _ (.inl rfl) e⟩
 | tup xs=>obtain ⟨z,its,r,ob,e,c⟩:=x; exact ⟨z,its,r,ob,k _ _ (.inl rfl) e,c⟩
 | dK kvs=>obtain ⟨z,y,vs,r,ob,es,ep,e,c⟩:=x; exact ⟨z,y,vs,r,ob,es,ep,k _ _ (.inl rfl) e,c⟩
 | dT kvs=>
  obtain ⟨z,y,xs,r,ob,es,ep,e,c⟩:=x
  exact ⟨z,y,xs,Paired.mapP r fun p q z=>⟨z.1,ht _ _ z.2.1,z.2.2⟩,ob,es,ep,k _ _ (.inl rfl) e,c⟩
 | set S n=>obtain ⟨ob,es,ep,t,e,c⟩:=x; exact ⟨ob,es,ep,t,k _ _ (.inl rfl) e,c⟩
 | ins C dx fs=>
  obtain ⟨d,z,ne,e,mA,⟨od,es,ep,e2,c⟩,r⟩:=x
  exact ⟨ho _ d,z,ne,k _ _ (.inl rfl) e,mA,⟨od,es,ep,k _ _ (.inr d) e2,c⟩,r⟩
 | own y=>obtain ⟨ob,e⟩:=x; exact ⟨ob,k _ _ (.inl rfl) e⟩
 | xd fs=>obtain ⟨mA,⟨od,es,ep,e,c⟩,r⟩:=x; exact ⟨mA,⟨od,es,ep,k _ _ (.inl rfl) e,c⟩,r⟩
 | rng lo hi=>obtain ⟨t,u,v,e⟩:=x; exact ⟨t,u,v,k _ _ (.inl rfl) e⟩
 | frz ob u ih=>obtain ⟨e,q⟩:=x; exact ⟨k _ _ (.inl rfl) e,ih q⟩
 | tbl ps=>
  have e:h.get? a=some {cls:=.none,data:=.fields ps}:=x
  show h'.get? a=some {cls:=.none,data:=.fields ps}
  exact k a _ (.inl rfl) e
 | met f y=>
  have e:h.get? a=some (PySem.W.methodObj (.ref f) (.ref y)):=x
  show h'.get? a=some (PySem.W.methodObj (.ref f) (.ref y))
  exact k a _ (.inl rfl) e
 | ext φ=>obtain ⟨p,⟨o,e⟩,st⟩:=x; exact ⟨st _ _ p fun o q=>k _ _ (.inl rfl) q,⟨o,k _ _ (.inl rfl) e⟩,st⟩
theorem HOk.lt (x:HOk P w H h) (e:H a=some o):a < h.objs.size:=(x a o e).lt
theorem HOk.fresh (x:HOk P w H h) (e:h.objs.size≤a):H a=none:=by
 cases q:H a with
 | none=>rfl
 | some u=>exact absurd (Nat.lt_of_lt_of_le (x.lt q) e) (Nat.lt_irrefl _)
theorem HOk.kept (x:HOk P w H h) (k:∀b u,h.get? b=some u→h'.get? b=some u):HOk P w H h':=fun a o e=>
 (x a o e).stay (fun b u _ q=>k b u q) (fun _ q=>q) fun _ _ q=>q
theorem HOk.laid (x:HOk P w H h) (k:∀b u,h.get? b=some u→h'.get? b=some u) (hp:h.objs.size≤a) (new:ObjOk P w (upd H a o) h' a o):HOk P w (upd H a o) h':=fun b u e=>by
 have hn:=x.fresh hp
 by_cases hb:b=a
 ·subst hb; rw [upd_same] at e; cases e; exact new
 ·rw [upd_ne hb] at e
  exact (x b u e).stay (fun c v _ q=>k c v q) (fun c q=>by rw [upd_ne (ne_of_none q hn)]; exact q) fun c xs q=>by rw [upd_ne (ne_of_none q hn)]; exact q
end
def Rd (H:Hp) (a:Addr) (u:HO):Prop:=H a=some u∨∃o,H a=some (.frz o u)
theorem Rd.ok {P:Program} {w:World} {H:Hp} {h:Heap} {a:Addr} {u:HO} (r:Rd H a u) (x:HOk P w H h):ObjOk P w H h a u:=by
 rcases r with r | ⟨o,r⟩
 ·exact x a u r
 ·obtain ⟨_,q⟩:=x a _ r
  exact q
def Mut:Option HO→Prop
 | some (.lst _)=>True
 | some (.dK _)=>True
 | some (.dT _)=>True
 | some (.set _ _)=>True
 | some (.ins _ _ _)=>True
 | some (.ext _)=>True
 | _=>False
section
variable {P:Program} {w:World} {H:Hp} {h h':Heap} {x e:Addr} {o':HO}
theorem HOk.write (ok:HOk P w H h) (mu:Mut (H x)) (he:e=x∨H e=some (.own x)) (k:∀b u,b≠e→h.get? b=some u→h'.get? b=some u) (heo:∃u,h'.get? e=some u)
  (new:ObjOk P w (upd H x o') h' x o'):HOk P w (upd H x o') h':=fun b u q=>by
 have nown:∀c y,H c=some (.own y)→c≠x:=fun c y r z=>by subst z; rw [r] at mu; exact mu
 have ntup:∀c xs,H c=some (.tup xs)→c≠x:=fun c xs r z=>by subst z; rw [r] at mu; exact mu
 by_cases hb:b=x
 ·subst hb; rw [upd_same] at q; cases q; exact new
 ·rw [upd_ne hb] at q
  by_cases hbe:b=e
  ·have q':H b=some (.own x):=by
    rcases he with z | z
    ·exact absurd (hbe.trans z) hb
    ·rw [hbe]; exact z
   rw [q] at q'; cases q'
   obtain ⟨v,hv⟩:=heo
   exact ⟨v,by rw [hbe]; exact hv⟩
  ·refine (ok b u q).stay (fun c v hc r=>k c v ?_ r) (fun c r=>by rw [upd_ne (nown c b r)]; exact r) fun c xs r=>by rw [upd_ne (ntup c xs r)]; exact r
   rcases hc with rfl | hc
   ·exact hbe
   ·rintro rfl
    rcases he with z | z
    ·exact nown c b hc z
    ·rw [hc] at z; cases z; exact hb rfl
end
structure Un (fs ex:List Addr) (H H':Hp) (h h':Heap):Prop where
 keep:∀b o,h.get? b=some o→H b=none→b∉fs→b∉ex→h'.get? b=some o
 slot:∀b o,h.get? b=some o→H b=none→b∈fs→b∉ex→∃sl,h'.get? b=some {o with slots:=sl}
 free:∀b o,h.get? b=some o→H b=none→b∉ex→H' b=none
 there:∀b o,h.get? b=some o→b∉ex→∃o',h'.get? b=some o'
 tups:∀b xs,H b=some (.tup xs)→H' b=some (.tup xs)
 frzs:∀b o u,H b=some (.frz o u)→H' b=some (.frz o u)
 tbls:∀b ps,H b=some (.tbl ps)→∃more,H' b=some (.tbl (ps ++ more))
section
variable {fs fs' ex ex':List Addr} {H H1 H2:Hp} {h h1 h2 h':Heap} {a x e:Addr} {o:HO}
theorem Un.any (u:Un fs ex H H1 h h1) {b:Addr} {ob:Obj} (q:h.get? b=some ob) (n:H b=none) (hx:b∉ex):∃sl,h1.get? b=some {ob with slots:=sl}:=by
 by_cases hb:b∈fs
 ·exact u.slot b ob q n hb hx
 ·exact ⟨ob.slots,u.keep b ob q n hb hx⟩
theorem Un.trans (a:Un fs ex H H1 h h1) (b:Un fs ex H1 H2 h1 h2):Un fs ex H H2 h h2 where
 keep:=fun c ob q n hc hx=>b.keep c ob (a.keep c ob q n hc hx) (a.free c ob q n hx) hc hx
 slot:=fun c ob q n hc hx=>by
  obtain ⟨sl,e1⟩:=a.slot c ob q n hc hx
  obtain ⟨sl',e2⟩:=b.slot c _ e1 (a.free c ob q n hx) hc hx
  exact ⟨sl',e2⟩
 free:=fun c ob q n hx=>by
  obtain ⟨o',e1⟩:=a.there c ob q hx
  exact b.free c o' e1 (a.free c ob q n hx) hx
 there:=fun c ob q hx=>by
  obtain ⟨o',e1⟩:=a.there c ob q hx
  exact b.there c o' e1 hx
 tups:=fun c xs q=>b.tups c xs (a.tups c xs q)
 frzs:=fun c ob xs q=>b.frzs c ob xs (a.frzs c ob xs q)
 tbls:=fun c ps q=>by
  obtain ⟨m1,e1⟩:=a.tbls c ps q
  obtain ⟨m2,e2⟩:=b.tbls c _ e1
  exact ⟨m1 ++ m2,by rw [e2,Array.append_assoc]⟩
theorem Un.kept (k:∀b u,h.get? b=some u→h'.get? b=some u):Un fs ex H H h h':=
 ⟨fun b ob q _ _ _=>k b ob q,fun b ob q _ _ _=>⟨ob.slots,k b ob q⟩,fun _ _ _ n _=>n,fun b ob q _=>⟨ob,k b ob q⟩,fun _ _ q=>q,fun _ _ _ q=>q,fun _ ps q=>⟨#[],by rw [q]; simp⟩⟩
theorem Un.refl:Un fs ex H H h h:=Un.kept fun _ _ q=>q
theorem Un.laid (k:∀b u,h.get? b=some u→h'.get? b=some u) (hp:h.objs.size≤a) (hn:H a=none):Un fs ex H (upd H a o) h h' where
 keep:=fun b u q _ _ _=>k b u q
 slot:=fun b u q _ _ _=>⟨u.slots,k b u q⟩
 free:=fun b u q n _=>by rw [upd_ne (Nat.ne_of_lt (Nat.lt_of_lt_of_le (Heap.lt_size q) hp))]; exact n
 there:=fun b u q _=>⟨u,k b u q⟩
 tups:=fun b xs q=>by rw [upd_ne (ne_of_none q hn)]; exact q
 frzs:=fun b u xs q=>by rw [upd_ne (ne_of_none q hn)]; exact q
 tbls:=fun b ps q=>⟨#[],by rw [upd_ne (ne_of_none q hn),q]; simp⟩
theorem Un.write (mu:Mut (H x)) (he:e=x∨H e=some (.own x)) (k:∀b u,b≠e→h.get? b=some u→h'.get? b=some u) (heo:∃u,h'.get? e=some u):Un fs ex H (upd H x o) h h':=by
 have hx:∀b,H b=none→b≠x:=fun b n z=>by subst z; rw [n] at mu; exact mu
 have hb:∀b,H b=none→b≠e:=fun b n z=>by
  subst z
  rcases he with r | r
  ·exact hx b n r
  ·rw [n] at r; cases r
 have hm:∀b u,H b=some u→¬Mut (some u)→b≠x:=fun b u q nm z=>by subst z; rw [q] at mu; exact nm mu
 refine ⟨fun b u q n _ _=>k b u (hb b n) q,fun b u q n _ _=>⟨u.slots,k b u (hb b n) q⟩,fun b u q n _=>by rw [upd_ne (hx b n)]; exact n,fun b u q _=>?_,
  fun b xs q=>by rw [upd_ne (hm b _ q fun z=>z)]; exact q,fun b u xs q=>by rw [upd_ne (hm b _ q fun z=>z)]; exact q,fun b ps q=>⟨#[],by rw [upd_ne (hm b _ q fun z=>z),q]; simp⟩⟩
 by_cases hbe:b=e
 ·subst hbe; exact heo
 ·exact ⟨u,k b u hbe q⟩
theorem Un.mono (u:Un fs ex H H1 h h1) (hs:∀b∈fs,b∈fs') (hx:∀b∈ex,b∈ex'):Un fs' ex' H H1 h h1:=
 ⟨fun b ob q n hb he=>u.keep b ob q n (fun z=>hb (hs b z)) fun z=>he (hx b z),fun _ _ q n _ he=>u.any q n fun z=>he (hx _ z),fun b ob q n he=>u.free b ob q n fun z=>he (hx b z),fun b ob q he=>u.there b ob q fun z=>he (hx b z),u.tups,u.frzs,u.tbls⟩
end
def trk (h:Heap) (H:Hp):List Addr:=(List.range h.objs.size).filter fun a=>(H a).isSome
def hidT (h:Heap) (H:Hp):Heap:=PySem.W.hideAll h (trk h H)
theorem hidT_size (h:Heap) (H:Hp):(hidT h H).objs.size=h.objs.size:=PySem.W.hideAll_size _ _
theorem hidT_get {h:Heap} {H:Hp} {b:Addr} {o:Obj} (e:h.get? b=some o) (n:H b=none):(hidT h H).get? b=some o:=
 PySem.W.hideAll_get _ e fun hm=>by
  have q:(H b).isSome=true:=(List.mem_filter.mp hm).2
  rw [n] at q; simp at q
theorem of_hidT {h:Heap} {H:Hp} {b:Addr} {o:Obj} (e:(hidT h H).get? b=some o):h.get? b=some o∧H b=none:=by
 have e':h.get? b=some o:=PySem.W.of_hideAll (trk h H) e
 refine ⟨e',?_⟩
 cases q:H b with
 | none=>rfl
 | some x=>
  have hm:b∈trk h H:=List.mem_filter.mpr ⟨List.mem_range.mpr (Heap.lt_size e'),by simp [q]⟩
  have z:(hidT h H).get? b=none:=PySem.W.hideAll_none (trk h H) hm
  rw [z] at e; cases e
structure Mod (K:PySem.W.Frag) (mg:Str→Option Value) (base:Heap):Prop where
 kin:K.In base
 glob:base.Ns mainGlobals mg
 blt:∃mb,base.Ns builtinsNs mb∧∀x:Str,x≠"__name__"→mb x=bootBuiltins x
 nolimit:base.NoLimit
structure Cx where
 prog:Program
 w:World
 K:PySem.W.Frag
 mg:Str→Option Value
 base:Heap
 A:Around
 N:List Str
 s₀:Shared
 H₀:Hp
 env:Env
 outer:List Env
 stack:List Env
 ex:List Addr
 fn:Str→Bool
 calm:Bool
 pn:List (Addr × Obj)
 xe:Value→Shared→Prop
def frs (l:List Env):List Addr:=l.filterMap (·.frame)
abbrev Cx.fs (X:Cx):List Addr:=frs X.outer
def Vis (sc:Scope) (x:Str):Prop:=sc.names.lookup x=some .local∨sc.names.lookup x=some .cell∨sc.names.lookup x=some .free
def Loc (sc:Scope) (x:Str):Prop:=sc.names.lookup x=some .local∨sc.names.lookup x=some .cell
def Look (env:Env) (h:Heap) (m:Str→Option Value) (x:Str) (u:Value):Prop:=
 (env.kindOf x=some .local∧m x=some u)∨((env.kindOf x=some .cell∨env.kindOf x=some .free)∧∃c,env.cells.lookup x=some c∧h.IsCell c (some u))
structure Cx.Ok (X:Cx):Prop where
 mod:Mod X.K X.mg X.base
 kind:X.env.scope.kind = .function
 glob:X.env.globals=mainGlobals
 blt:X.env.builtins=builtinsNs
 above:X.s₀.heap.objs.size≤X.env.locals
 inj:∀x y c,X.env.cells.lookup x=some c→X.env.cells.lookup y=some c→x=y
 has:∀x,(X.env.kindOf x=some .cell∨X.env.kindOf x=some .free)→∃c,X.env.cells.lookup x=some c
 cab:∀x c,X.fn x=true→X.env.cells.lookup x=some c→X.s₀.heap.objs.size≤c
 hd:X.calm=true→X.A.handled=none
 frames:X.A.frames=some X.stack
 stk:X.stack=X.outer∨(X.stack=X.env :: X.outer∧X.env.frame=some X.env.locals)
 exf:∀b∈X.ex,b≠X.env.locals∧∀x c,X.env.cells.lookup x=some c→c≠b
 bs:∀b o,X.base.get? b=some o→X.s₀.heap.get? b=some o∧X.H₀ b=none
 bsz:X.base.objs.size≤X.s₀.heap.objs.size
 noex:∀b o,X.base.get? b=some o→b∉X.ex
 exfs:∀b∈X.ex,b∉X.fs
 funs:X.s₀.heap.FunFrames X.base X.outer
 frf:∀b∈X.fs,X.H₀ b=none
structure Inv (X:Cx) (pins:List (Addr × Obj)) (σ:List (Option V)) (H:Hp) (s:Shared):Prop where
 ok:X.Ok
 os:s.os=X.s₀.os
 bare:AllBare s.gens
 base:Un X.fs X.ex X.H₀ H X.s₀.heap s.heap
 loc:∃m,s.heap.Ns X.env.locals m∧∀(i:Nat) (x:Str) (v:V),X.N[i]? = some x→σ[i]? = some (some v)→Vis X.env.scope x→∃u,RelV v u∧Look X.env s.heap m x u
 cell:∀x c,X.env.cells.lookup x=some c→∃v,s.heap.IsCell c v
 free:H X.env.locals=none
 freeC:∀x c,X.env.cells.lookup x=some c→H c=none
 pin:∀p∈X.pn ++ pins,s.heap.get? p.1=some p.2∧H p.1=none∧p.1≠X.env.locals∧p.1∉X.fs∧∀v,p.2.data≠.cell v
 hok:HOk X.prog X.w H s.heap
 len:σ.length=X.N.length
section
variable {X:Cx} {pins:List (Addr × Obj)} {σ:List (Option V)} {H H':Hp} {s:Shared} {h':Heap}
theorem Cx.Ok.nofr (ok:X.Ok) {b:Addr} {o:Obj} (e:X.base.get? b=some o):b∉X.fs:=fun hb=>by
 have:=(ok.funs.mem hb).1
 rw [e] at this; cases this
theorem Inv.bs (I:Inv X pins σ H s):∀b o,X.base.get? b=some o→s.heap.get? b=some o∧H b=none:=fun b o e=>
 ⟨I.base.keep b o (I.ok.bs b o e).1 (I.ok.bs b o e).2 (I.ok.nofr e) (I.ok.noex b o e),I.base.free b o (I.ok.bs b o e).1 (I.ok.bs b o e).2 (I.ok.noex b o e)⟩
theorem Inv.bk (I:Inv X pins σ H s):∀b o,X.base.get? b=some o→s.heap.get? b=some o:=fun b o e=>(I.bs b o e).1
theorem Inv.mod (I:Inv X pins σ H s):Mod X.K X.mg X.base:=I.ok.mod
theorem Inv.kIn (I:Inv X pins σ H s):X.K.In s.heap:=I.ok.mod.kin.keeps I.bk
theorem Inv.nolimit (I:Inv X pins σ H s):s.heap.NoLimit:=I.ok.mod.nolimit.keeps I.bk
theorem Inv.lt (I:Inv X pins σ H s):X.env.locals < s.heap.objs.size:=let ⟨_,hn,_⟩:=I.loc; hn.lt
theorem Inv.sz (I:Inv X pins σ H s):X.s₀.heap.objs.size≤s.heap.objs.size:=Nat.le_trans I.ok.above (Nat.le_of_lt I.lt)
theorem Inv.nofs (I:Inv X pins σ H s) {a:Addr} (h:s.heap.objs.size≤a):a∉X.fs:=fun hb=>by
 obtain ⟨_,o,ho,_⟩:=I.ok.funs.mem hb
 exact absurd (Nat.lt_of_lt_of_le (Heap.lt_size ho) (Nat.le_trans I.sz h)) (Nat.lt_irrefl _)
theorem Inv.cne (I:Inv X pins σ H s):∀x c,X.env.cells.lookup x=some c→c≠X.env.locals:=fun x c e z=>by
 obtain ⟨v,o,ho,hd⟩:=I.cell x c e
 obtain ⟨m,⟨o',es,ep,ho',hd',_⟩,_⟩:=I.loc
 rw [z,ho'] at ho; cases ho; rw [hd'] at hd; cases hd
theorem Inv.funs (I:Inv X pins σ H s):s.heap.FunFrames X.base X.outer:=by
 have all:∀(l:List Env),(∀b∈frs l,b∈X.fs)→X.s₀.heap.FunFrames X.base l→s.heap.FunFrames X.base l:=by
  intro l
  induction l with
  | nil=>intro _ _; trivial
  | cons env r ih=>
   intro hs hl
   obtain ⟨hk,⟨L,o,hf,hn,ho,hd⟩,hr⟩:=hl
   have hL:L∈X.fs:=hs L (by unfold frs; rw [List.filterMap_cons,hf]; exact List.mem_cons_self)
   obtain ⟨sl,e⟩:=I.base.slot L o ho (I.ok.frf L hL) hL fun z=>I.ok.exfs L z hL
   exact ⟨hk,⟨L,_,hf,hn,e,hd⟩,ih (fun b hb=>hs b (by unfold frs; rw [List.filterMap_cons,hf]; exact List.mem_cons_of_mem _ hb)) hr⟩
 exact all X.outer (fun _ hb=>hb) I.ok.funs
theorem Inv.stack (I:Inv X pins σ H s):s.heap.FunFrames X.base X.stack:=by
 rcases I.ok.stk with e | ⟨e,hf⟩
 ·rw [e]; exact I.funs
 ·rw [e]
  obtain ⟨m,hn,_⟩:=I.loc
  refine .cons (by rw [I.ok.kind]; decide) hf hn ?_ I.funs
  exact Heap.get?_none_of_le (Nat.le_trans I.ok.bsz I.ok.above)
theorem Inv.stkSub (I:Inv X pins σ H s):∀b∈frs X.stack,b∈X.env.locals :: X.fs:=fun b hb=>by
 rcases I.ok.stk with e | ⟨e,hf⟩
 ·rw [e] at hb; exact List.mem_cons_of_mem _ hb
 ·rw [e] at hb
  unfold frs at hb
  rw [List.filterMap_cons,hf] at hb
  exact hb
theorem Inv.stkFree (I:Inv X pins σ H s):∀b∈frs X.stack,H b=none:=fun b hb=>by
 rcases List.mem_cons.mp (I.stkSub b hb) with e | hb
 ·rw [e]; exact I.free
 ·obtain ⟨_,o,ho,_⟩:=I.ok.funs.mem hb
  exact I.base.free b o ho (I.ok.frf b hb) fun z=>I.ok.exfs b z hb
theorem Inv.step {g':Array GenState} {t':Nat} {d':Drawn} {ch:List Addr} (I:Inv X pins σ H s)
  (hch:∀b∈ch,(b∈X.ex∨X.s₀.heap.objs.size≤b)∧b≠X.env.locals∧(∀x c,X.env.cells.lookup x=some c→c≠b)∧∀p∈X.pn ++ pins,p.1≠b)
  (keep:∀b o,b≠X.env.locals→b∉X.fs→b∉ch→s.heap.get? b=some o→H b=none→h'.get? b=some o)
  (slot:∀b o,b≠X.env.locals→b∈X.fs→b∉ch→s.heap.get? b=some o→H b=none→∃sl,h'.get? b=some {o with slots:=sl}) (free:∀b o,b∉ch→s.heap.get? b=some o→H b=none→H' b=none)
  (there:∀b o,b∉ch→s.heap.get? b=some o→∃o',h'.get? b=some o')
  (tups:∀b xs,H b=some (.tup xs)→H' b=some (.tup xs)) (frzs:∀b o u,H b=some (.frz o u)→H' b=some (.frz o u)) (tbls:∀b ps,H b=some (.tbl ps)→∃more,H' b=some (.tbl (ps ++ more)))
  (ns:∀m,s.heap.Ns X.env.locals m→h'.Ns X.env.locals m) (hok:HOk X.prog X.w H' h') (hg:AllBare g') :
  Inv X pins σ H' {s with heap:=h',gens:=g',drawn:=d',toks:=t'}:=by
 have neL:∀b o,X.s₀.heap.get? b=some o→b≠X.env.locals:=fun b o e=>Nat.ne_of_lt (Nat.lt_of_lt_of_le (Heap.lt_size e) I.ok.above)
 have neC:∀b o,X.s₀.heap.get? b=some o→b∉X.ex→b∉ch:=fun b o e hx hb=>by
  rcases (hch b hb).1 with z | z
  ·exact hx z
  ·exact absurd (Nat.lt_of_lt_of_le (Heap.lt_size e) z) (Nat.lt_irrefl _)
 have cellK:∀x c,X.env.cells.lookup x=some c→∀v,s.heap.IsCell c v→h'.IsCell c v:=fun x c e v ⟨o,ho,hd⟩=>by
  have nch:c∉ch:=fun z=>(hch c z).2.2.1 x c e rfl
  by_cases hc:c∈X.fs
  ·obtain ⟨sl,q⟩:=slot c o (I.cne x c e) hc nch ho (I.freeC x c e)
   exact ⟨_,q,hd⟩
  ·exact ⟨o,keep c o (I.cne x c e) hc nch ho (I.freeC x c e),hd⟩
 refine ⟨I.ok,I.os,hg,⟨fun b o e n hb hx=>?_,fun b o e n hb hx=>?_,fun b o e n hx=>?_,fun b o e hx=>?_,fun b xs e=>tups b xs (I.base.tups b xs e),fun b o xs e=>frzs b o xs (I.base.frzs b o xs e),fun b ps e=>?_⟩,?_,fun x c e=>?_,?_,fun x c e=>?_,fun p hp=>?_,hok,I.len⟩
 ·exact keep b o (neL b o e) hb (neC b o e hx) (I.base.keep b o e n hb hx) (I.base.free b o e n hx)
 ·obtain ⟨sl,e1⟩:=I.base.slot b o e n hb hx
  obtain ⟨sl',e2⟩:=slot b _ (neL b o e) hb (neC b o e hx) e1 (I.base.free b o e n hx)
  exact ⟨sl',e2⟩
 ·obtain ⟨o',e1⟩:=I.base.there b o e hx
  exact free b o' (neC b o e hx) e1 (I.base.free b o e n hx)
 ·obtain ⟨o',e1⟩:=I.base.there b o e hx
  exact there b o' (neC b o e hx) e1
 ·obtain ⟨m1,e1⟩:=I.base.tbls b ps e
  obtain ⟨m2,e2⟩:=tbls b _ e1
  exact ⟨m1 ++ m2,by rw [e2,Array.append_assoc]⟩
 ·obtain ⟨m,hn,hl⟩:=I.loc
  refine ⟨m,ns m hn,fun i x v e1 e2 e3=>?_⟩
  obtain ⟨u,r,l⟩:=hl i x v e1 e2 e3
  refine ⟨u,r,?_⟩
  rcases l with l | ⟨k,c,e,z⟩
  ·exact .inl l
  ·exact .inr ⟨k,c,e,cellK x c e _ z⟩
 ·obtain ⟨v,z⟩:=I.cell x c e
  exact ⟨v,cellK x c e v z⟩
 ·obtain ⟨m,⟨o,_,_,ho,_⟩,_⟩:=I.loc
  exact free _ o (fun z=>(hch _ z).2.1 rfl) ho I.free
 ·obtain ⟨v,o,ho,hd⟩:=I.cell x c e
  exact free c o (fun z=>(hch c z).2.2.1 x c e rfl) ho (I.freeC x c e)
 ·obtain ⟨e,n,ne,nf,d⟩:=I.pin p hp
  have nch:p.1∉ch:=fun z=>(hch p.1 z).2.2.2 p hp rfl
  exact ⟨keep p.1 p.2 ne nf nch e n,free p.1 p.2 nch e n,ne,nf,d⟩
theorem Inv.un {t':Nat} (I:Inv X pins σ H s) (u:Un X.fs [] H H' s.heap h') (hok:HOk X.prog X.w H' h'):Inv X pins σ H' {s with heap:=h',toks:=t'}:=by
 obtain ⟨m,⟨o,es,ep,ho,r⟩,_⟩:=id I.loc
 obtain ⟨sl,hL⟩:=u.any ho I.free (by simp)
 exact I.step (g':=s.gens) (d':=s.drawn) (ch:=[]) (fun _ z=>nomatch z) (fun b o _ hb _ e n=>u.keep b o e n hb (by simp)) (fun b o _ hb _ e n=>u.slot b o e n hb (by simp)) (fun b o _ e n=>u.free b o e n (by simp)) (fun b o _ e=>u.there b o e (by simp)) u.tups u.frzs u.tbls (fun m' hm=>by
  obtain ⟨o',es',ep',ho',r'⟩:=hm
  rw [ho] at ho'; cases ho'
  exact ⟨_,es',ep',hL,r'⟩) hok I.bare
theorem Inv.call {g':Array GenState} {t':Nat} {d':Drawn} {ch:List Addr} (I:Inv X pins σ H s) (u:Un (frs X.stack) ch H H' s.heap h') (hok:HOk X.prog X.w H' h') (hg:AllBare g')
  (hch:∀b∈ch,(b∈X.ex∨X.s₀.heap.objs.size≤b)∧b≠X.env.locals∧(∀x c,X.env.cells.lookup x=some c→c≠b)∧∀p∈X.pn ++ pins,p.1≠b) :
  Inv X pins σ H' {s with heap:=h',gens:=g',drawn:=d',toks:=t'}:=by
 obtain ⟨m,⟨o,es,ep,ho,r⟩,_⟩:=id I.loc
 obtain ⟨sl,hL⟩:=u.any ho I.free fun z=>(hch _ z).2.1 rfl
 exact I.step (ch:=ch) hch (fun b o hL hb hc e n=>u.keep b o e n (fun z=>(List.mem_cons.mp (I.stkSub b z)).elim hL hb) hc) (fun b o _ _ hc e n=>u.any e n hc) (fun b o hc e n=>u.free b o e n hc) (fun b o hc e=>u.there b o e hc) u.tups u.frzs u.tbls (fun m' hm=>by
  obtain ⟨o',es',ep',ho',r'⟩:=hm
  rw [ho] at ho'; cases ho'
  exact ⟨_,es',ep',hL,r'⟩) hok hg
theorem Inv.turned {t':Nat} {it:Addr} (I:Inv X pins σ H s) (k:∀b o,b≠it→s.heap.get? b=some o→h'.get? b=some o) (hn:H it=none) (hL:it≠X.env.locals)
  (h1:it∈X.ex∨X.s₀.heap.objs.size≤it) (h2:∀x c,X.env.cells.lookup x=some c→c≠it) (h3:∀p∈X.pn ++ pins,p.1≠it):Inv X pins σ H {s with heap:=h',toks:=t'}:=by
 have nit:∀b u,H b=some u→b≠it:=fun b u e z=>by rw [z,hn] at e; cases e
 refine I.step (g':=s.gens) (d':=s.drawn) (ch:=[it]) (fun b hb=>?_) (fun b o _ _ hc e _=>k b o (fun z=>hc (by simp [z])) e) (fun b o _ _ hc e _=>⟨o.slots,k b o (fun z=>hc (by simp [z])) e⟩) (fun _ _ _ _ n=>n)
  (fun b o hc e=>⟨o,k b o (fun z=>hc (by simp [z])) e⟩) (fun _ _ e=>e) (fun _ _ _ e=>e) (fun b ps e=>⟨#[],by rw [e]; simp⟩) (fun m hm=>?_) (fun b u e=>?_) I.bare
 ·have e:b=it:=by simpa using hb
  subst e
  exact ⟨h1,hL,h2,h3⟩
 ·obtain ⟨o,es,ep,ho,r⟩:=hm
  exact ⟨o,es,ep,k _ o (Ne.symm hL) ho,r⟩
 ·refine (I.hok b u e).stay (fun c v hc q=>k c v ?_ q) (fun _ q=>q) fun _ _ q=>q
  rcases hc with z | z
  ·rw [z]; exact nit b u e
  ·exact nit c _ z
theorem Inv.tok (I:Inv X pins σ H s) (t:Nat):Inv X pins σ H {s with toks:=t}:=I.un (h':=s.heap) (t':=t) Un.refl I.hok
theorem Inv.kept {t':Nat} (I:Inv X pins σ H s) (k:∀b u,s.heap.get? b=some u→h'.get? b=some u):Inv X pins σ H {s with heap:=h',toks:=t'}:=I.un (Un.kept k) (I.hok.kept k)
theorem Inv.laid {a:Addr} {o:HO} {t':Nat} (I:Inv X pins σ H s) (k:∀b u,s.heap.get? b=some u→h'.get? b=some u) (hp:s.heap.objs.size≤a) (new:ObjOk X.prog X.w (upd H a o) h' a o) :
  Inv X pins σ (upd H a o) {s with heap:=h',toks:=t'}:=I.un (Un.laid k hp (I.hok.fresh hp)) (I.hok.laid k hp new)
theorem Inv.write {x e:Addr} {o:HO} {t':Nat} (I:Inv X pins σ H s) (mu:Mut (H x)) (he:e=x∨H e=some (.own x)) (k:∀b u,b≠e→s.heap.get? b=some u→h'.get? b=some u) (heo:∃u,h'.get? e=some u)
  (new:ObjOk X.prog X.w (upd H x o) h' x o):Inv X pins σ (upd H x o) {s with heap:=h',toks:=t'}:=I.un (Un.write mu he k heo) (I.hok.write mu he k heo new)
theorem Inv.pins_of {pins':List (Addr × Obj)} (I:Inv X pins σ H s) (h:∀p∈pins',s.heap.get? p.1=some p.2∧H p.1=none∧p.1≠X.env.locals∧p.1∉X.fs∧∀v,p.2.data≠.cell v):Inv X pins' σ H s:=
 ⟨I.ok,I.os,I.bare,I.base,I.loc,I.cell,I.free,I.freeC,fun p hp=>(List.mem_append.mp hp).elim (fun z=>I.pin p (List.mem_append_left _ z)) (h p),I.hok,I.len⟩
theorem nodup_ix {N:List Str} (hN:N.Nodup) {i j:Nat} {x:Str} (a:N[i]? = some x) (b:N[j]? = some x):i=j:=by
 obtain ⟨h1,e1⟩:=List.getElem?_eq_some_iff.mp a
 obtain ⟨h2,e2⟩:=List.getElem?_eq_some_iff.mp b
 exact (List.getElem_inj hN).mp (e1.trans e2.symm)
theorem store_ok2 {M:Model} {A:Around} {E:Value→Shared→Prop} {i:Nat} {x:Str} {v:V} {u:Value} {Q:Unit→Shared→Prop} (I:Inv X pins σ H s) (hN:X.N.Nodup) (hi:X.N[i]? = some x) (hx:Loc X.env.scope x) (r:RelV v u)
  (h:∀s',Inv X pins (σ.set i (some v)) H s'→(∃a,Heap.SameBut a s.heap s'.heap∧(a=X.env.locals∨X.env.cells.lookup x=some a))→Q () s') (hf:X.fn x=true∨X.env.scope.names.lookup x=some .local:=by first | exact .inl rfl | exact .inr rfl | assumption):wpAny M A (storeName X.env x u) Q E s:=by
 obtain ⟨m,hn,hl⟩:=id I.loc
 have hcls:(X.env.scope.kind == .class || (X.env.scope.kind == .module && X.env.locals != X.env.globals))=false:=by rw [I.ok.kind]; rfl
 have hiσ:i < σ.length:=by rw [I.len]; exact (List.getElem?_eq_some_iff.mp hi).1
 have cne:=I.cne
 have tracked:∀{a:Addr} {h':Heap},(∃o,s.heap.get? a=some o∧H a=none)→Heap.SameBut a s.heap h'→HOk X.prog X.w H h':=fun {a h'} ha hs b ob e=>by
  obtain ⟨_,_,hfree⟩:=ha
  refine (I.hok b ob e).stay (fun c w' hc q=>(hs.2 c ?_).trans q) (fun _ q=>q) fun _ _ q=>q
  rintro rfl
  rcases hc with rfl | hc
  ·rw [hfree] at e; cases e
  ·rw [hfree] at hc; cases hc
 rcases hx with hk | hk
 ·refine wpAny_storeName_local hk hn (fun h' hn' hs=>?_) hcls
  obtain ⟨oL,_,_,hoL,_⟩:=id hn
  refine h _ ⟨I.ok,I.os,I.bare,⟨fun b o e n hb hx=>?_,fun b o e n hb hx=>?_,I.base.free,fun b o e hx=>?_,I.base.tups,I.base.frzs,I.base.tbls⟩,⟨_,hn',fun j y v' e1 e2 e3=>?_⟩,fun y c e=>?_,I.free,I.freeC,fun p hp=>?_,tracked ⟨oL,hoL,I.free⟩ hs,by simpa using I.len⟩ ⟨_,hs,.inl rfl⟩
  ·exact (hs.2 b (Nat.ne_of_lt (Nat.lt_of_lt_of_le (Heap.lt_size e) I.ok.above))).trans (I.base.keep b o e n hb hx)
  ·obtain ⟨sl,e1⟩:=I.base.slot b o e n hb hx
   exact ⟨sl,(hs.2 b (Nat.ne_of_lt (Nat.lt_of_lt_of_le (Heap.lt_size e) I.ok.above))).trans e1⟩
  ·obtain ⟨o',e1⟩:=I.base.there b o e hx
   exact ⟨o',(hs.2 b (Nat.ne_of_lt (Nat.lt_of_lt_of_le (Heap.lt_size e) I.ok.above))).trans e1⟩
  ·by_cases hj:j=i
   ·subst hj
    rw [hi] at e1; cases e1
    rw [List.getElem?_set_self hiσ] at e2
    cases e2
    exact ⟨u,r,.inl ⟨hk,by simp⟩⟩
   ·rw [List.getElem?_set_ne (Ne.symm hj)] at e2
    obtain ⟨u',r',q⟩:=hl j y v' e1 e2 e3
    refine ⟨u',r',?_⟩
    rcases q with ⟨k,e⟩ | ⟨k,c,e,z⟩
    ·refine .inl ⟨k,?_⟩
     have:y≠x:=fun e=>hj (nodup_ix hN e1 (e ▸ hi))
     simp [this,e]
    ·exact .inr ⟨k,c,e,z.sameBut hs (cne y c e)⟩
  ·obtain ⟨w',z⟩:=I.cell y c e
   exact ⟨w',z.sameBut hs (cne y c e)⟩
  ·obtain ⟨e,n,ne,nf,d⟩:=I.pin p hp
   exact ⟨(hs.2 p.1 ne).trans e,n,ne,nf,d⟩
 ·have hfn:X.fn x=true:=by
   rcases hf with z | z
   ·exact z
   ·rw [z] at hk; cases hk
  obtain ⟨c,hc⟩:=I.ok.has x (.inl hk)
  obtain ⟨w',z⟩:=I.cell x c hc
  refine wpAny_storeName_cell I.ok.kind hk hc z (fun h' hc' hs=>?_)
  obtain ⟨oc,hoc,hocd⟩:=id z
  refine h {s with heap:=h'} ⟨I.ok,I.os,I.bare,⟨fun b o e n hb hx=>?_,fun b o e n hb hx=>?_,I.base.free,fun b o e hx=>?_,I.base.tups,I.base.frzs,I.base.tbls⟩,⟨m,hn.sameBut hs (Ne.symm (cne x c hc)),fun j y v' e1 e2 e3=>?_⟩,fun y c' e=>?_,I.free,I.freeC,fun p hp=>?_,tracked ⟨oc,hoc,I.freeC x c hc⟩ hs,by simpa using I.len⟩ ⟨c,hs,.inr hc⟩
  ·exact (hs.2 b (Nat.ne_of_lt (Nat.lt_of_lt_of_le (Heap.lt_size e) (I.ok.cab x c hfn hc)))).trans (I.base.keep b o e n hb hx)
  ·obtain ⟨sl,e1⟩:=I.base.slot b o e n hb hx
   exact ⟨sl,(hs.2 b (Nat.ne_of_lt (Nat.lt_of_lt_of_le (Heap.lt_size e) (I.ok.cab x c hfn hc)))).trans e1⟩
  ·obtain ⟨o',e1⟩:=I.base.there b o e hx
   exact ⟨o',(hs.2 b (Nat.ne_of_lt (Nat.lt_of_lt_of_le (Heap.lt_size e) (I.ok.cab x c hfn hc)))).trans e1⟩
  ·by_cases hj:j=i
   ·subst hj
    rw [hi] at e1; cases e1
    rw [List.getElem?_set_self hiσ] at e2
    cases e2
    exact ⟨u,r,.inr ⟨.inl hk,c,hc,hc'⟩⟩
   ·rw [List.getElem?_set_ne (Ne.symm hj)] at e2
    obtain ⟨u',r',q⟩:=hl j y v' e1 e2 e3
    refine ⟨u',r',?_⟩
    rcases q with q | ⟨k,c',e,z'⟩
    ·exact .inl q
    ·refine .inr ⟨k,c',e,z'.sameBut hs ?_⟩
     rintro rfl
     exact hj (nodup_ix hN e1 (I.ok.inj _ _ _ e hc ▸ hi))
  ·by_cases hcc:c'=c
   ·subst hcc; exact ⟨_,hc'⟩
   ·obtain ⟨w2,z2⟩:=I.cell y c' e
    exact ⟨w2,z2.sameBut hs hcc⟩
  ·obtain ⟨e,n,ne,nf,d⟩:=I.pin p hp
   refine ⟨(hs.2 p.1 ?_).trans e,n,ne,nf,d⟩
   intro q
   rw [q,hoc] at e
   have q':oc=p.2:=Option.some.inj e
   exact d w' (by rw [← q']; exact hocd)
theorem store_ok {M:Model} {A:Around} {E:Value→Shared→Prop} {i:Nat} {x:Str} {v:V} {u:Value} {Q:Unit→Shared→Prop} (I:Inv X pins σ H s) (hN:X.N.Nodup) (hi:X.N[i]? = some x) (hx:Loc X.env.scope x) (r:RelV v u)
  (h:∀s',Inv X pins (σ.set i (some v)) H s'→Q () s') (hf:X.fn x=true∨X.env.scope.names.lookup x=some .local:=by first | exact .inl rfl | exact .inr rfl | assumption):wpAny M A (storeName X.env x u) Q E s:=
 store_ok2 I hN hi hx r (fun s' I' _=>h s' I') hf
theorem Inv.call' {s':Shared} {ch:List Addr} (I:Inv X pins σ H s) (ho:s'.os=s.os) (u:Un (frs X.stack) ch H H' s.heap s'.heap) (hok:HOk X.prog X.w H' s'.heap) (hg:AllBare s'.gens)
  (hch:∀b∈ch,(b∈X.ex∨X.s₀.heap.objs.size≤b)∧b≠X.env.locals∧(∀x c,X.env.cells.lookup x=some c→c≠b)∧∀p∈X.pn ++ pins,p.1≠b):Inv X pins σ H' s':=by
 obtain ⟨h',g',d',t',o'⟩:=s'
 have e:o'=s.os:=ho
 subst e
 exact I.call (g':=g') (t':=t') (d':=d') u hok hg hch
end
abbrev XK:=Value→Option Addr→Hp→Prop
abbrev St:=List (Option V)
abbrev VK:=V→Hp→Prop
abbrev TE:=St→Hp→VK→Prop
abbrev TT:=St→Hp→(Bool→Hp→Prop)→Prop
abbrev TA:=St→Hp→(List V→Hp→Prop)→Prop
structure Ends where
 nx:St→Hp→Prop
 rt:VK
 bk:St→Hp→Prop:=fun _ _=>False
 ct:St→Hp→Prop:=fun _ _=>False
abbrev TS:=Ends→St→Hp→Prop
def EP (X:Cx) (pins:List (Addr × Obj)) (σ:St) (Q:VK) (u:Value) (s':Shared):Prop:=∃v H',Inv X pins σ H' s'∧RelV v u∧Q v H'
def TP (X:Cx) (pins:List (Addr × Obj)) (σ:St) (Q:Bool→Hp→Prop) (b:Bool) (s':Shared):Prop:=∃H',Inv X pins σ H' s'∧Q b H'
def AP (X:Cx) (pins:List (Addr × Obj)) (σ:St) (Q:List V→Hp→Prop) (us:List Value) (s':Shared):Prop:=∃vs H',Inv X pins σ H' s'∧Vals vs us∧Q vs H'
def SP (X:Cx) (pins:List (Addr × Obj)) (D:Ends) (f:Flow) (s':Shared):Prop:=
 match f with
 | .next=>∃σ' H',Inv X pins σ' H' s'∧D.nx σ' H'
 | .brk=>∃σ' H',Inv X pins σ' H' s'∧D.bk σ' H'
 | .cont=>∃σ' H',Inv X pins σ' H' s'∧D.ct σ' H'
 | .ret u=>∃v σ' H',Inv X pins σ' H' s'∧RelV v u∧D.rt v H'
def PE (X:Cx) (e:Expr) (t:TE):Prop:=
 ∀(pins:List (Addr × Obj)) (s:Shared) (σ:St) (H:Hp) (Q:VK),Inv X pins σ H s→t σ H Q→wpAny (model X.prog X.w) X.A (eval e X.env) (EP X pins σ Q) X.xe s
def PT (X:Cx) (e:Expr) (t:TT):Prop:=
 ∀(pins:List (Addr × Obj)) (s:Shared) (σ:St) (H:Hp) (Q:Bool→Hp→Prop),Inv X pins σ H s→t σ H Q→wpAny (model X.prog X.w) X.A (isTrue e X.env (eval e X.env)) (TP X pins σ Q) X.xe s
def PW (X:Cx) (e:Expr) (t:TT):Prop:=
 ∀(whole:Sem Value) (pins:List (Addr × Obj)) (s:Shared) (σ:St) (H:Hp) (Q:Bool→Hp→Prop),Inv X pins σ H s→t σ H Q→wpAny (model X.prog X.w) X.A (isTrue e X.env whole) (TP X pins σ Q) X.xe s
theorem PW.pt {X:Cx} {e:Expr} {t:TT} (h:PW X e t):PT X e t:=h _
def PA (X:Cx) (es:List Expr) (t:TA):Prop:=
 ∀(pos:Pos) (pins:List (Addr × Obj)) (s:Shared) (σ:St) (H:Hp) (Q:List V→Hp→Prop),Inv X pins σ H s→t σ H Q→wpAny (model X.prog X.w) X.A (spliced (backTo pos (starEach es X.env))) (AP X pins σ Q) X.xe s
def PS (X:Cx) (st:Stmt) (t:TS):Prop:=
 ∀(pins:List (Addr × Obj)) (s:Shared) (σ:St) (H:Hp) (D:Ends),Inv X pins σ H s→t D σ H→wpAny (model X.prog X.w) X.A (exec st X.env) (SP X pins D) X.xe s
def PSs (X:Cx) (st:List Stmt) (t:TS):Prop:=
 ∀(pins:List (Addr × Obj)) (s:Shared) (σ:St) (H:Hp) (D:Ends),Inv X pins σ H s→t D σ H→wpAny (model X.prog X.w) X.A (execs st X.env) (SP X pins D) X.xe s
theorem thn {α:Type} {t:Sem α} {Q Q':α→Shared→Prop} {M:Model} {A:Around} {E:Value→Shared→Prop} {s:Shared} (h:wpAny M A t Q E s) (hQ:∀a s,Q a s→Q' a s):wpAny M A t Q' E s:=wpAny_mono h hQ fun _ _ x=>x
section
variable {X:Cx}
def tVar (i:Nat):TE:=fun σ H Q=>∃v,σ[i]? = some (some v)∧Q v H
def tC (v:V):TE:=fun _ H Q=>Q v H
theorem pe_var {i:Nat} {x:Str} {pos:Pos} (hN:X.N[i]? = some x) (hv:Vis X.env.scope x) (hd:(x == ("__debug__" : Str))=false:=by decide) (hcd:(x == ("__classdict__" : Str))=false:=by decide):PE X (.Name x pos) (tVar i):=by
 intro pins s σ H Q I h
 obtain ⟨v,e,h⟩:=h
 obtain ⟨m,hn,hl⟩:=I.loc
 obtain ⟨u,r,l⟩:=hl i x v hN e hv
 have fin:EP X pins σ Q u s:=⟨v,H,I,r,h⟩
 rcases l with ⟨hk,hm⟩ | ⟨hk,c,hc,hcell⟩
 ·exact wpAny_Name (wpAny_loadName_local I.ok.kind hk hn hm fin) hd
 ·rcases hk with hk | hk
  ·exact wpAny_Name (wpAny_loadName_cell I.ok.kind hk hc hcell fin) hd
  ·exact wpAny_Name (wpAny_loadName_free I.ok.kind hk hc hcell fin hcd) hd
theorem pe_int {i j pos}:PE X (.Constant (.int i) j pos) (tC (.int i)):=fun _ _ _ H _ I h=>wpAny_Constant_int ⟨.int i,H,I.tok _,⟨_,rfl⟩,h⟩
theorem pe_bl {b j pos}:PE X (.Constant (.bool b) j pos) (tC (.bl b)):=fun _ _ _ H _ I h=>Constant_bool ⟨.bl b,H,I,rfl,h⟩
theorem pe_non {j pos}:PE X (.Constant .none j pos) (tC .non):=fun _ _ _ H _ I h=>Constant_none ⟨.non,H,I,rfl,h⟩
theorem pe_str {x j pos}:PE X (.Constant (.str x) j pos) (tC (.str x)):=fun _ _ _ H _ I h=>Calls.Constant_str ⟨.str x,H,I.tok _,⟨_,rfl⟩,h⟩
def Gl (X:Cx) (x:Str):Prop:=X.env.kindOf x=some .globalImplicit
theorem ld_glob {E:Value→Shared→Prop} {pins:List (Addr × Obj)} {s:Shared} {σ:St} {H:Hp} {x:Str} {u:Value} {pos:Pos} {Q:Value→Shared→Prop} (I:Inv X pins σ H s) (hg:Gl X x) (hm:X.mg x=some u) (h:Q u s)
  (hd:(x == ("__debug__" : Str))=false:=by decide):wpAny (model X.prog X.w) X.A (eval (.Name x pos) X.env) Q E s:=
 Calls.Name_function_global I.ok.kind hg (Calls.loadGlobal_global (by rw [I.ok.glob]; exact I.mod.glob.keeps I.bk) hm h) hd
theorem ld_blt {E:Value→Shared→Prop} {pins:List (Addr × Obj)} {s:Shared} {σ:St} {H:Hp} {x:Str} {u:Value} {pos:Pos} {Q:Value→Shared→Prop} (I:Inv X pins σ H s) (hg:Gl X x) (hm:X.mg x=none) (hv:bootBuiltins x=some u) (h:Q u s)
  (hn:x≠"__name__":=by decide) (hd:(x == ("__debug__" : Str))=false:=by decide):wpAny (model X.prog X.w) X.A (eval (.Name x pos) X.env) Q E s:=by
 obtain ⟨mb,h1,h2⟩:=I.mod.blt
 exact Calls.Name_function_global I.ok.kind hg (Calls.loadGlobal_builtin (by rw [I.ok.glob]; exact I.mod.glob.keeps I.bk) hm (by rw [I.ok.blt]; exact h1.keeps I.bk) ((h2 x hn).trans hv) h) hd
theorem pe_glob {x:Str} {v:V} {u:Value} {pos:Pos} (hg:Gl X x) (hm:X.mg x=some u) (r:RelV v u) (hd:(x == ("__debug__" : Str))=false:=by decide):PE X (.Name x pos) (tC v):=
 fun _ _ _ H _ I h=>ld_glob I hg hm ⟨v,H,I,r,h⟩ hd
theorem pe_bltn {x:Str} {v:V} {u:Value} {pos:Pos} (hg:Gl X x) (hm:X.mg x=none) (hv:bootBuiltins x=some u) (r:RelV v u) (hn:x≠"__name__":=by decide) (hd:(x == ("__debug__" : Str))=false:=by decide):PE X (.Name x pos) (tC v):=
 fun _ _ _ H _ I h=>ld_blt I hg hm hv ⟨v,H,I,r,h⟩ hn hd
variable {a b:Expr} {ta tb:TE} {pos:Pos}
def PC (X:Cx) (op:CmpOp) (a b:Expr) (t:TE):Prop:=
 ∀(pins:List (Addr × Obj)) (s:Shared) (σ:St) (H:Hp) (Q:VK),Inv X pins σ H s→t σ H Q→
  wpAny (model X.prog X.w) X.A (eval a X.env) (fun v s₁=>wpAny (model X.prog X.w) X.A (eval b X.env) (fun u s₂=>wpAny (model X.prog X.w) X.A (compareOp op v u) (EP X pins σ Q) X.xe s₂) X.xe s₁) X.xe s
theorem nobehind (b:Expr) {op:CmpOp} (h:op≠.In) (h2:op≠.NotIn):behindInMarks op b=false:=by
 have e1:(op == CmpOp.In)=false:=by cases op <;> first | rfl | exact absurd rfl h
 have e2:(op == CmpOp.NotIn)=false:=by cases op <;> first | rfl | exact absurd rfl h2
 cases b <;> simp [behindInMarks,e1,e2]
def tIsN (ta:TE):TE:=fun σ H Q=>ta σ H fun x H1=>Q (.bl (decide (x = .non))) H1
def tNotN (ta:TE):TE:=fun σ H Q=>ta σ H fun x H1=>Q (.bl (!decide (x = .non))) H1
theorem RelV.none_iff {x:V} {v:Value} (r:RelV x v):(v == Value.none)=decide (x = .non):=by
 cases x with
 | non=>cases r; rfl
 | bl _=>cases r; rfl
 | int _=>obtain ⟨t,rfl⟩:=r; rfl
 | str _=>obtain ⟨t,rfl⟩:=r; rfl
 | byt _=>obtain ⟨t,rfl⟩:=r; rfl
 | flt _=>obtain ⟨t,rfl⟩:=r; rfl
 | ref _=>cases r; rfl
 | ty _=>cases r; rfl
theorem pc_isN {j pos'} (ha:PE X a ta):PC X .Is a (.Constant .none j pos') (tIsN ta):=by
 intro pins s σ H Q I h
 refine thn (ha pins s σ H _ I h) fun v s1 ⟨x,H1,I1,r1,q1⟩=>?_
 exact Constant_none (is_none_gen ⟨.bl _,H1,I1,by rw [r1.none_iff]; rfl,q1⟩)
theorem pc_notN {j pos'} (ha:PE X a ta):PC X .IsNot a (.Constant .none j pos') (tNotN ta):=by
 intro pins s σ H Q I h
 refine thn (ha pins s σ H _ I h) fun v s1 ⟨x,H1,I1,r1,q1⟩=>?_
 exact Constant_none (isnot_none_gen ⟨.bl _,H1,I1,by rw [r1.none_iff]; rfl,q1⟩)
def tB (t:TE):TT:=fun σ H Q=>t σ H fun x H1=>∃c,x = .bl c∧Q c H1
theorem pe_cmp {op:CmpOp} {t:TE} (h:PC X op a b t) (h1:behindInMarks op b=false:=by first | exact nobehind _ (by decide) (by decide) | rfl):PE X (.Compare a [op] [b] pos) t:=fun pins s σ H Q I hw=>wpAny_Compare1 (h pins s σ H Q I hw) h1
theorem pt_cmp {op:CmpOp} {t:TE} (h:PC X op a b t) (h1:behindInMarks op b=false:=by first | exact nobehind _ (by decide) (by decide) | rfl):PT X (.Compare a [op] [b] pos) (tB t):=by
 intro pins s σ H Q I hw
 refine wpAny_isTrue_Compare1 (thn (h pins s σ H _ I hw) fun v s1 h1=>thn h1 fun u s2 h2=>thn h2 fun c s3 ⟨x,H1,I1,r1,q1⟩=>?_) h1
 obtain ⟨d,rfl,q⟩:=q1
 cases r1
 exact wpAny_truthy_bool ⟨H1,I1,q⟩
theorem pt_val {e:Expr} {t:TE} (h:PE X e t) (he:∀whole,isTrue e X.env whole=(do let v ← whole; standAt e.pos; holding [v] (truthy v)):=by intro _; rfl):PT X e (tB t):=by
 intro pins s σ H Q I hw
 refine isTrue_plain (thn (h pins s σ H _ I hw) fun v s1 ⟨x,H1,I1,r1,q1⟩=>?_) (he _)
 obtain ⟨d,rfl,q⟩:=q1
 cases r1
 exact wpAny_truthy_bool ⟨H1,I1,q⟩
variable {tA tB':TT} {rest:List Expr}
def tAnd (t u:TT):TT:=fun σ H Q=>t σ H fun c H1=>if c=true then u σ H1 Q else Q false H1
def tOr (t u:TT):TT:=fun σ H Q=>t σ H fun c H1=>if c=true then Q true H1 else u σ H1 Q
def tNot (t:TT):TT:=fun σ H Q=>t σ H fun c H1=>Q (!c) H1
theorem pw_and1 (ha:PT X a tA):PW X (.BoolOp .And [a] pos) tA:=by
 intro wh pins s σ H Q I h
 refine isTrue_and (thn (ha pins s σ H Q I h) fun c s1 e=>?_)
 cases c with
 | true=>exact isTrue_and_nil e
 | false=>exact e
theorem pw_or1 (ha:PT X a tA):PW X (.BoolOp .Or [a] pos) tA:=by
 intro wh pins s σ H Q I h
 refine isTrue_or (thn (ha pins s σ H Q I h) fun c s1 e=>?_)
 cases c with
 | false=>exact isTrue_or_nil e
 | true=>exact e
theorem pw_and (ha:PT X a tA) (hb:PW X (.BoolOp .And (b :: rest) pos) tB'):PW X (.BoolOp .And (a :: b :: rest) pos) (tAnd tA tB'):=by
 intro wh pins s σ H Q I h
 refine isTrue_and (thn (ha pins s σ H _ I h) fun c s1 ⟨H1,I1,q1⟩=>?_)
 cases c with
 | true=>exact hb wh pins s1 σ H1 Q I1 q1
 | false=>exact ⟨H1,I1,q1⟩
theorem pw_or (ha:PT X a tA) (hb:PW X (.BoolOp .Or (b :: rest) pos) tB'):PW X (.BoolOp .Or (a :: b :: rest) pos) (tOr tA tB'):=by
 intro wh pins s σ H Q I h
 refine isTrue_or (thn (ha pins s σ H _ I h) fun c s1 ⟨H1,I1,q1⟩=>?_)
 cases c with
 | true=>exact ⟨H1,I1,q1⟩
 | false=>exact hb wh pins s1 σ H1 Q I1 q1
theorem pt_not (ha:PT X a tA):PT X (.UnaryOp .Not a pos) (tNot tA):=by
 intro pins s σ H Q I h
 exact isTrue_not (ha pins s σ H (fun c H1=>Q (!c) H1) I h)
def tAndV (ta tb:TE):TE:=fun σ H Q=>ta σ H fun x H1=>∃c,x = .bl c∧if c=true then tb σ H1 Q else Q (.bl false) H1
def tOrV (ta tb:TE):TE:=fun σ H Q=>ta σ H fun x H1=>∃c,x = .bl c∧if c=true then Q (.bl true) H1 else tb σ H1 Q
def tNotV (ta:TE):TE:=fun σ H Q=>ta σ H fun x H1=>∃c,x = .bl c∧Q (.bl (!c)) H1
theorem pe_one {op} {t:TE} (h:PE X a t):PE X (.BoolOp op [a] pos) t:=fun pins s σ H Q I hw=>BoolOp_one (h pins s σ H Q I hw)
theorem pe_and (ha:PE X a ta) (hb:PE X (.BoolOp .And (b :: rest) pos) tb):PE X (.BoolOp .And (a :: b :: rest) pos) (tAndV ta tb):=by
 intro pins s σ H Q I h
 refine BoolOp_and (thn (ha pins s σ H _ I h) fun v s1 ⟨x,H1,I1,r1,q1⟩=>?_)
 obtain ⟨c,rfl,q1⟩:=q1
 cases r1
 refine wpAny_truthy_bool ?_
 cases c with
 | true=>exact hb pins s1 σ H1 Q I1 q1
 | false=>exact ⟨.bl false,H1,I1,rfl,q1⟩
theorem pe_or (ha:PE X a ta) (hb:PE X (.BoolOp .Or (b :: rest) pos) tb):PE X (.BoolOp .Or (a :: b :: rest) pos) (tOrV ta tb):=by
 intro pins s σ H Q I h
 refine BoolOp_or (thn (ha pins s σ H _ I h) fun v s1 ⟨x,H1,I1,r1,q1⟩=>?_)
 obtain ⟨c,rfl,q1⟩:=q1
 cases r1
 refine wpAny_truthy_bool ?_
 cases c with
 | false=>exact hb pins s1 σ H1 Q I1 q1
 | true=>exact ⟨.bl true,H1,I1,rfl,q1⟩
theorem pe_not (ha:PE X a ta):PE X (.UnaryOp .Not a pos) (tNotV ta):=by
 intro pins s σ H Q I h
 refine UnaryOp_ (thn (ha pins s σ H _ I h) fun v s1 ⟨x,H1,I1,r1,q1⟩=>?_)
 obtain ⟨c,rfl,q1⟩:=q1
 cases r1
 exact not_of (wpAny_truthy_bool ⟨.bl (!c),H1,I1,rfl,q1⟩)
end
def SqL (K:PySem.W.Frag) (H:Hp) (a:Addr) (xs:List V):Prop:=
 Rd H a (.lst xs)∨
  ∃(o:Obj) (its:Array Value) (n:Nat),K.lookup a=some o∧o.cls = .type "list"∧o.dict=none∧o.data = .seq its n∧its.size≤sizeLine∧Vals xs its.toList
def SqT (K:PySem.W.Frag) (H:Hp) (a:Addr) (xs:List V):Prop:=
 Rd H a (.tup xs)∨
  ∃(o:Obj) (its:Array Value) (n:Nat),K.lookup a=some o∧o.cls = .type "tuple"∧o.data = .seq its n∧its.size≤sizeLine∧Vals xs its.toList
def absV:Value→Option V
 | .none=>some .non
 | .bool b=>some (.bl b)
 | .int i _=>some (.int i)
 | .str x _=>some (.str x)
 | .bytes b _=>some (.byt b)
 | .float b _=>some (.flt b)
 | .ref a=>some (.ref a)
 | .type n=>some (.ty n)
 | _=>none
theorem RelV.abs {x:V} {u:Value} (r:RelV x u):absV u=some x:=by
 cases x with
 | non=>cases r; rfl
 | bl _=>cases r; rfl
 | int _=>obtain ⟨t,rfl⟩:=r; rfl
 | str _=>obtain ⟨t,rfl⟩:=r; rfl
 | byt _=>obtain ⟨t,rfl⟩:=r; rfl
 | flt _=>obtain ⟨t,rfl⟩:=r; rfl
 | ref _=>cases r; rfl
 | ty _=>cases r; rfl
theorem RelV.inj {x y:V} {u:Value} (r:RelV x u) (q:RelV y u):x=y:=Option.some.inj (r.abs.symm.trans q.abs)
theorem Vals.inj:∀{xs ys:List V} {us:List Value},Vals xs us→Vals ys us→xs=ys
 | _,_,_,.nil,.nil=>rfl
 | _,_,_,.cons r t,.cons r' t'=>by rw [r.inj r',Vals.inj t t']
section
variable {X:Cx} {pins:List (Addr × Obj)} {σ:St} {H:Hp} {s:Shared} {a:Addr} {xs ys:List V}
theorem SqL.of {K:PySem.W.Frag} (h:H a=some (.lst xs)):SqL K H a xs:=.inl (.inl h)
theorem SqT.of {K:PySem.W.Frag} (h:H a=some (.tup xs)):SqT K H a xs:=.inl (.inl h)
theorem Inv.list (I:Inv X pins σ H s) (h:SqL X.K H a xs):∃its:List Value,Vals xs its∧PlainL s.heap a its.toArray∧xs.length≤sizeLine:=by
 rcases h with h | ⟨o,its,n,hk,hc,hd,hs,hz,r⟩
 ·obtain ⟨z,its,n,r,e⟩:=h.ok I.hok
  exact ⟨its,r,⟨_,n,e,rfl,rfl,rfl⟩,z⟩
 ·refine ⟨its.toList,r,⟨o,n,I.kIn a o hk,hc,hd,by simpa using hs⟩,?_⟩
  have e:=r.length
  simp only [Array.length_toList] at e
  omega
theorem Inv.tuple (I:Inv X pins σ H s) (h:SqT X.K H a xs):∃its:List Value,Vals xs its∧IsTup s.heap a its.toArray∧xs.length≤sizeLine:=by
 rcases h with h | ⟨o,its,n,hk,hc,hs,hz,r⟩
 ·obtain ⟨z,its,r,p⟩:=h.ok I.hok
  exact ⟨its,r,p,z⟩
 ·refine ⟨its.toList,r,⟨o,I.kIn a o hk,hc,n,by simpa using hs⟩,?_⟩
  have e:=r.length
  simp only [Array.length_toList] at e
  omega
theorem Inv.list_inj (I:Inv X pins σ H s) (h:SqL X.K H a xs) (h':SqL X.K H a ys):xs=ys:=by
 obtain ⟨its,r,⟨o,n,e,_,_,d⟩,_⟩:=I.list h
 obtain ⟨its',r',⟨o',n',e',_,_,d'⟩,_⟩:=I.list h'
 rw [e] at e'; cases e'
 rw [d] at d'
 injection d' with d1 _
 have:its=its':=by simpa using congrArg Array.toList d1
 subst this
 exact r.inj r'
end
abbrev Cx.wish (X:Cx) (E:Value→Shared→Prop):Cx:={X with xe:=E}
abbrev Cx.nox (X:Cx):Cx:=X.wish fun _ _=>False
theorem Cx.Ok.wish {X:Cx} (ok:X.Ok) (E:Value→Shared→Prop):(X.wish E).Ok:=
 ⟨ok.mod,ok.kind,ok.glob,ok.blt,ok.above,ok.inj,ok.has,ok.cab,ok.hd,ok.frames,ok.stk,ok.exf,ok.bs,ok.bsz,ok.noex,ok.exfs,ok.funs,ok.frf⟩
theorem Cx.Ok.unwish {X:Cx} {E:Value→Shared→Prop} (ok:(X.wish E).Ok):X.Ok:=
 ⟨ok.mod,ok.kind,ok.glob,ok.blt,ok.above,ok.inj,ok.has,ok.cab,ok.hd,ok.frames,ok.stk,ok.exf,ok.bs,ok.bsz,ok.noex,ok.exfs,ok.funs,ok.frf⟩
section
variable {X:Cx} {pins:List (Addr × Obj)} {σ:St} {H:Hp} {s:Shared} {E:Value→Shared→Prop}
theorem Inv.wish (I:Inv X pins σ H s) (E:Value→Shared→Prop):Inv (X.wish E) pins σ H s:=⟨I.ok.wish E,I.os,I.bare,I.base,I.loc,I.cell,I.free,I.freeC,I.pin,I.hok,I.len⟩
theorem Inv.unwish (I:Inv (X.wish E) pins σ H s):Inv X pins σ H s:=⟨I.ok.unwish,I.os,I.bare,I.base,I.loc,I.cell,I.free,I.freeC,I.pin,I.hok,I.len⟩
theorem SP.unwish {D:Ends} {f:Flow} {s':Shared} (h:SP (X.wish E) pins D f s'):SP X pins D f s':=by
 cases f with
 | next=>obtain ⟨σ',H',I,q⟩:=h; exact ⟨σ',H',I.unwish,q⟩
 | brk=>obtain ⟨σ',H',I,q⟩:=h; exact ⟨σ',H',I.unwish,q⟩
 | cont=>obtain ⟨σ',H',I,q⟩:=h; exact ⟨σ',H',I.unwish,q⟩
 | ret u=>obtain ⟨v,σ',H',I,r,q⟩:=h; exact ⟨v,σ',H',I.unwish,r,q⟩
theorem PSs.nox {st:List Stmt} {t:TS} (h:PSs X.nox st t):PSs X st t:=fun pins s σ H D I hw=>
 wpAny_mono (h pins s σ H D (I.wish _) hw) (fun _ _ q=>q.unwish) fun _ _ z=>False.elim z
end
section
variable {X:Cx} {st:Stmt} {rest:List Stmt} {t u:TS} {e:Expr} {te:TE} {pos:Pos}
def tNext:TS:=fun D σ H=>D.nx σ H
def tSeq (t u:TS):TS:=fun D σ H=>t {D with nx:=u D} σ H
theorem pss_nil:PSs X [] tNext:=fun _ _ σ H _ I h=>wpAny_execs_nil ⟨σ,H,I,h⟩
theorem pss_cons (h1:PS X st t) (h2:PSs X rest u):PSs X (st :: rest) (tSeq t u):=by
 intro pins s σ H D I h
 refine wpAny_execs_cons (thn (h1 pins s σ H {D with nx:=u D} I h) fun f s1 q=>?_)
 cases f with
 | next=>
  obtain ⟨σ',H',I',q⟩:=q
  exact h2 pins s1 σ' H' D I' q
 | ret v=>exact q
 | brk=>exact q
 | cont=>exact q
theorem pss_one (h1:PS X st t):PSs X [st] t:=by
 intro pins s σ H D I h
 refine wpAny_execs_cons (thn (h1 pins s σ H D I h) fun f s1 q=>?_)
 cases f with
 | next=>exact wpAny_execs_nil q
 | ret v=>exact q
 | brk=>exact q
 | cont=>exact q
theorem Inv.quiet {pins:List (Addr × Obj)} {σ:St} {H:Hp} {s:Shared} (I:Inv X pins σ H s):interactive X.env=false:=by simp [interactive,I.ok.kind]
def tDrop (te:TE):TS:=fun D σ H=>te σ H fun _ H1=>D.nx σ H1
theorem ps_expr (he:PE X e te) (hs:swapsWith e none pos.line X.env=pure false:=by rfl):PS X (.Expr e pos) (tDrop te):=by
 intro pins s σ H D I h
 exact wpAny_Expr_any (thn (he pins s σ H _ I h) fun v s1 ⟨x,H1,I1,r1,q1⟩=>⟨σ,H1,I1,q1⟩) I.quiet hs
def tRet (te:TE):TS:=fun D σ H=>te σ H D.rt
theorem ps_ret (he:PE X e te):PS X (.Return (some e) pos) (tRet te):=by
 intro pins s σ H D I h
 exact wpAny_Return_some (thn (he pins s σ H _ I h) fun v s1 ⟨x,H1,I1,r1,q1⟩=>⟨x,σ,H1,I1,r1,q1⟩)
def tIfS (c:TT) (t u:TS):TS:=fun D σ H=>c σ H fun b H1=>if b=true then t D σ H1 else u D σ H1
theorem ps_if {c:Expr} {a b:List Stmt} {tc:TT} (hc:PT X c tc) (ha:PSs X a t) (hb:PSs X b u):PS X (.If c a b pos) (tIfS tc t u):=by
 intro pins s σ H D I h
 refine wpAny_If (thn (hc pins s σ H _ I h) fun d s1 ⟨H1,I1,q1⟩=>?_)
 cases d with
 | true=>exact ha pins s1 σ H1 D I1 q1
 | false=>exact hb pins s1 σ H1 D I1 q1
def tNever:TS:=fun _ _ _=>False
theorem pss_never {sts:List Stmt}:PSs X sts tNever:=fun _ _ _ _ _ _ h=>h.elim
end
abbrev TG:=V→St→Hp→(St→Hp→Prop)→Prop
abbrev TGs:=List V→St→Hp→(St→Hp→Prop)→Prop
def PG (X:Cx) (target:Expr) (t:TG):Prop:=
 ∀(pins:List (Addr × Obj)) (s:Shared) (σ:St) (H:Hp) (v:V) (u:Value) (Q:St→Hp→Prop),Inv X pins σ H s→RelV v u→t v σ H Q→
  wpAny (model X.prog X.w) X.A (assign target X.env u) (fun _ s'=>∃σ' H',Inv X pins σ' H' s'∧Q σ' H') X.xe s
def PGs (X:Cx) (ts:List Expr) (t:TGs):Prop:=
 ∀(pins:List (Addr × Obj)) (s:Shared) (σ:St) (H:Hp) (vs:List V) (us:List Value) (Q:St→Hp→Prop),Inv X pins σ H s→Vals vs us→t vs σ H Q→
  wpAny (model X.prog X.w) X.A (assignInOrder ((assignEach ts X.env).map (·.2)) us) (fun _ s'=>∃σ' H',Inv X pins σ' H' s'∧Q σ' H') X.xe s
abbrev TSet:=V→V→V→Hp→(Hp→Prop)→Prop
def PSet (X:Cx) (t:TSet):Prop:=
 ∀(pins:List (Addr × Obj)) (s:Shared) (σ:St) (H:Hp) (o i v:V) (ov iv u:Value) (Q:Hp→Prop),Inv X pins σ H s→RelV o ov→RelV i iv→RelV v u→t o i v H Q→
  wpAny (model X.prog X.w) X.A (setItem ov iv u) (fun _ s'=>∃H',Inv X pins σ H' s'∧Q H') X.xe s
section
variable {X:Cx} {pos:Pos}
def gName (i:Nat):TG:=fun v σ H Q=>Q (σ.set i (some v)) H
theorem pg_name {i:Nat} {x:Str} (hN:X.N.Nodup) (hi:X.N[i]? = some x) (hx:Loc X.env.scope x) (hf:X.fn x=true∨X.env.scope.names.lookup x=some .local:=by first | exact .inl rfl | exact .inr rfl | assumption):PG X (.Name x pos) (gName i):=by
 intro pins s σ H v u Q I r h
 exact wpAny_assign_Name (store_ok I hN hi hx r (fun s' I'=>⟨_,H,I',h⟩) hf)
def gNil:TGs:=fun vs σ H Q=>vs=[]∧Q σ H
def gCons (t:TG) (u:TGs):TGs:=fun vs σ H Q=>∃v r,vs=v :: r∧t v σ H fun σ' H'=>u r σ' H' Q
theorem pgs_nil:PGs X [] gNil:=by
 intro pins s σ H vs us Q I r h
 obtain ⟨e,h⟩:=h
 subst e
 cases r
 exact assignInOrder_nil ⟨σ,H,I,h⟩
theorem pgs_cons {e:Expr} {es:List Expr} {t:TG} {u:TGs} (h1:PG X e t) (h2:PGs X es u)
  (hs:(assignEach (e :: es) X.env).map (·.2)=assign e X.env :: (assignEach es X.env).map (·.2):=by rfl):PGs X (e :: es) (gCons t u):=by
 intro pins s σ H vs us Q I r h
 obtain ⟨v,vr,e1,h⟩:=h
 subst e1
 cases r with
 | cons r rr=>
  rw [hs]
  refine assignInOrder_cons (thn (h1 pins s σ H _ _ _ I r h) fun _ s1 ⟨σ1,H1,I1,q1⟩=>?_)
  exact h2 pins s1 σ1 H1 _ _ Q I1 rr q1
def gTup (K:PySem.W.Frag) (n:Nat) (t:TGs):TG:=fun v σ H Q=>∃a xs,v = .ref a∧SqT K H a xs∧xs.length=n∧t xs σ H Q
theorem pg_tup {es:List Expr} {k:Nat} {t:TGs} {n:Nat} (hc:X.calm=true) (h:PGs X es t)
  (hn:(assignEach es X.env).length=n:=by rfl) (hst:(assignEach es X.env).findIdx? (·.1)=none:=by rfl):PG X (.Tuple es k pos) (gTup X.K n t):=by
 intro pins s σ H v u Q I r hw
 obtain ⟨a,xs,e1,hq,hl,hw⟩:=hw
 subst e1
 cases r
 obtain ⟨its,rv,ht,hz⟩:=I.tuple hq
 refine assign_Tuple_tuple (I.ok.hd hc) ht (by simp [hn,← hl,rv.length]) hst fun h' hx=>?_
 have I1:Inv X pins σ H {s with heap:=h'}:=I.kept (t':=s.toks) fun b o e=>hx b o (Nat.ne_of_lt (Heap.lt_size e)) e
 exact h pins _ σ H xs _ Q I1 (by simpa using rv) hw
def gSub (to ti:TE) (t:TSet):TG:=fun v σ H Q=>to σ H fun o H1=>ti σ H1 fun i H2=>t o i v H2 fun H3=>Q σ H3
theorem pg_sub {o i:Expr} {to ti:TE} {t:TSet} (ho:PE X o to) (hi:PE X i ti) (hs:PSet X t)
  (ha:∀v,assign (.Subscript o i pos) X.env v=(do
   let ov ← holding [v] (eval o X.env)
   let iv ← holding [v,ov] (eval i X.env)
   standAt pos
   holding [v,ov,iv] (setItem ov iv v)
   release [v,ov,iv] []):=by intro _; rfl):PG X (.Subscript o i pos) (gSub to ti t):=by
 intro pins s σ H v u Q I r h
 rw [ha]
 refine wpAny_bind (wpAny_holding (thn (ho pins s σ H _ I h) fun ov s1 ⟨x,H1,I1,r1,q1⟩=>?_))
 refine wpAny_bind (wpAny_holding (thn (hi pins s1 σ H1 _ I1 q1) fun iv s2 ⟨y,H2,I2,r2,q2⟩=>?_))
 refine wpAny_bind (wpAny_standAt (wpAny_bind (wpAny_holding (thn (hs pins s2 σ H2 x y v ov iv u _ I2 r1 r2 r q2) fun _ s3 ⟨H3,I3,q3⟩=>?_))))
 exact wpAny_release ⟨σ,H3,I3,q3⟩
def tAsg (te:TE) (g:TG):TS:=fun D σ H=>te σ H fun x H1=>g x σ H1 D.nx
theorem ps_asg {tg e:Expr} {te:TE} {g:TG} (he:PE X e te) (hg:PG X tg g) (hs:swapsWithSole [tg] e pos.line X.env=pure false:=by rfl) (hw:swappedStores [tg] e X.env=pure none:=by rfl)
  (h1:(assignEach [tg] X.env).map (·.2)=[assign tg X.env]:=by rfl):PS X (.Assign [tg] e pos) (tAsg te g):=by
 intro pins s σ H D I h
 refine wpAny_Assign_stores (thn (he pins s σ H _ I h) fun v s1 ⟨x,H1,I1,r1,q1⟩=>?_) hs hw
 rw [h1]
 exact thn (hg pins s1 σ H1 x v _ I1 r1 q1) fun _ s2 q=>q
theorem ps_set {i:Nat} {x:Str} {e:Expr} {te:TE} {pos':Pos} (hN:X.N.Nodup) (hi:X.N[i]? = some x) (hx:Loc X.env.scope x) (he:PE X e te) (hs:swapsWith e (some (.Name x pos')) pos.line X.env=pure false:=by rfl) (hf:X.fn x=true∨X.env.scope.names.lookup x=some .local:=by first | exact .inl rfl | exact .inr rfl | assumption) :
  PS X (.Assign [.Name x pos'] e pos) (tAsg te (gName i)):=by
 intro pins s σ H D I h
 refine wpAny_Assign_Name (thn (he pins s σ H _ I h) fun v s1 ⟨y,H1,I1,r1,q1⟩=>?_) hs
 exact store_ok I1 hN hi hx r1 (fun s2 I2=>⟨_,H1,I2,q1⟩) hf
def tPar (i j:Nat) (ta:TA):TS:=fun D σ H=>ta σ H fun vs H1=>∃v w,vs=[v,w]∧D.nx ((σ.set i (some v)).set j (some w)) H1
theorem ps_par {i j:Nat} {x y:Str} {a b:Expr} {ta:TA} {px py pt:Pos} {kt k2 pt2} (hc:X.calm=true) (hN:X.N.Nodup) (hi:X.N[i]? = some x) (hj:X.N[j]? = some y) (hij:i≠j)
  (hx:X.env.scope.names.lookup x=some .local) (hy:X.env.scope.names.lookup y=some .local) (ha:PA X [a,b] ta)
  (hw:swappedStores [.Tuple [.Name x px,.Name y py] kt pt] (.Tuple [a,b] k2 pt2) X.env=pure (some [x,y]))
  (hs:swapsWithSole [.Tuple [.Name x px,.Name y py] kt pt] (.Tuple [a,b] k2 pt2) pos.line X.env=pure false:=by rfl) :
  PS X (.Assign [.Tuple [.Name x px,.Name y py] kt pt] (.Tuple [a,b] k2 pt2) pos) (tPar i j ta):=by
 intro pins s σ H D I h
 rw [exec_Assign_arm]
 refine wpAny_bind (wpAny_standAt ?_)
 rw [hs]
 refine wpAny_bind (wpAny_pure ?_)
 rw [if_neg (by decide)]
 refine wpAny_bind (Tuple_ (thn (ha _ pins s σ H _ I h) fun us s1 ⟨vs,H1,I1,r1,q1⟩=>?_))
 obtain ⟨v,w,e1,q1⟩:=q1
 subst e1
 obtain ⟨u1,u2,rfl,rv,rw'⟩:∃u1 u2,us=[u1,u2]∧RelV v u1∧RelV w u2:=by
  cases r1 with
  | cons p q=>
   cases q with
   | cons p' q'=>
    cases q'
    exact ⟨_,_,rfl,p,p'⟩
 refine wpAny_newObj_type ?_ (by show 2≤sizeLine; decide)
 have I2:Inv X pins σ H1 {s1 with heap:=s1.heap.push {cls:=.type "tuple",data:=.seq [u1,u2].toArray}}:=I1.kept (t':=s1.toks) fun b o e=>Heap.get?_push_of_some _ e
 rw [hw]
 refine wpAny_bind (wpAny_pure ?_)
 show wpAny (model X.prog X.w) X.A (do rule "assign.swapped-stores"; let items ← unpackItems (.ref s1.heap.objs.size) 2 none; assignInOrder [fun v=>bindName X.env y v,fun v=>bindName X.env x v] items.reverse; pure Flow.next) _ _ _
 refine wpAny_bind (wpAny_rule (wpAny_bind (unpackItems_tuple (items:=#[u1,u2]) (I.ok.hd hc) (IsTup.new s1.heap _) fun h' hx'=>?_)))
 have I3:=I2.kept (h':=h') (t':=s1.toks) fun b o e=>hx' b o (Nat.ne_of_lt (Heap.lt_size e)) e
 show wpAny _ _ (assignInOrder [fun v=>bindName X.env y v,fun v=>bindName X.env x v] [u2,u1] >>= fun _=>pure Flow.next) _ _ _
 refine wpAny_bind (assignInOrder_cons (wpAny_bindName (store_ok I3 hN hj (.inl hy) rw' (fun s2 I4=>?_) (.inr hy))))
 refine assignInOrder_cons (wpAny_bindName (store_ok I4 hN hi (.inl hx) rv (fun s3 I5=>assignInOrder_nil (wpAny_pure ?_)) (.inr hx)))
 rw [List.set_comm _ _ (Ne.symm hij)] at I5
 exact ⟨_,H1,I5,q1⟩
def tWhile (c:TT) (tb:TS):TS:=fun D σ H=>∃W:Nat→St→Hp→Prop,(∃m,W m σ H)∧∀m σ H,W m σ H→
 c σ H fun b H1=>if b=true then ∃N:St→Hp→Prop,(∀σ' H',N σ' H'→∃m',m' < m∧W m' σ' H')∧tb {D with nx:=N,ct:=N,bk:=D.nx} σ H1 else D.nx σ H1
theorem ps_while {c:Expr} {body:List Stmt} {tc:TT} {tb:TS} (hp:PassesOwn (model X.prog X.w) X.A X.env X.xe) (hc:PT X c tc) (hb:PSs X body tb):PS X (.While c body [] pos) (tWhile tc tb):=by
 intro pins s σ H D I h
 obtain ⟨W,⟨m0,w0⟩,turn⟩:=h
 refine wpAny_While (codeAny_whileLoop (fun n s'=>∃σ' H',Inv X pins σ' H' s'∧W n σ' H') ?_ m0 ⟨σ,H,I,w0⟩)
 rintro n s1 ⟨σ1,H1,I1,w1⟩
 refine wpAny_passesOwn hp (thn (hc pins s1 σ1 H1 _ I1 (turn n σ1 H1 w1)) fun b s2 ⟨H2,I2,q2⟩=>?_)
 cases b with
 | true=>
  obtain ⟨N,hN,q2⟩:=q2
  rw [if_pos rfl]
  refine wpAny_passesOwn hp (thn (hb pins s2 σ1 H2 _ I2 q2) fun f s3 q3=>?_)
  cases f with
  | next=>
   obtain ⟨σ3,H3,I3,n3⟩:=q3
   obtain ⟨m',hm,w3⟩:=hN σ3 H3 n3
   exact ⟨m',hm,σ3,H3,I3,w3⟩
  | cont=>
   obtain ⟨σ3,H3,I3,n3⟩:=q3
   obtain ⟨m',hm,w3⟩:=hN σ3 H3 n3
   exact ⟨m',hm,σ3,H3,I3,w3⟩
  | brk=>exact q3
  | ret v=>exact q3
 | false=>
  rw [if_neg Bool.false_ne_true]
  exact wpAny_execs_nil ⟨σ1,H2,I2,q2⟩
end
structure It where
 go:Nat→Hp→Prop
 yld:Nat→Hp→V→Hp→Prop
 stop:Nat→Hp→Prop
def FpOk (X:Cx) (pins:List (Addr × Obj)) (H:Hp) (b:Addr):Prop:=
 H b=none∧b≠X.env.locals∧b∉X.fs∧(b∈X.ex∨X.s₀.heap.objs.size≤b)∧(∀x c,X.env.cells.lookup x=some c→c≠b)∧∀p∈X.pn ++ pins,p.1≠b
theorem Inv.fpOk {X:Cx} {pins:List (Addr × Obj)} {σ:St} {H H':Hp} {s:Shared} {b:Addr} (I:Inv X pins σ H s) (hb:s.heap.objs.size≤b) (hn:H' b=none):FpOk X pins H' b:=by
 refine ⟨hn,Nat.ne_of_gt (Nat.lt_of_lt_of_le I.lt hb),I.nofs hb,.inr (Nat.le_trans I.sz hb),fun x c e z=>?_,fun p hp z=>?_⟩
 ·obtain ⟨v,q⟩:=I.cell x c e
  exact absurd (Nat.lt_of_lt_of_le q.lt (by rw [z]; exact hb)) (Nat.lt_irrefl _)
 ·exact absurd (Nat.lt_of_lt_of_le (Heap.lt_size (I.pin p hp).1) (by rw [z]; exact hb)) (Nat.lt_irrefl _)
structure Turn (P:Program) (w:World) (K:PySem.W.Frag) (tg:Expr) (J:It) (fp:List Addr) (it:Addr) (tn:Nat→Heap→Prop):Prop where
 mem:it∈fp
 obj:∀i h,tn i h→∀b∈fp,∃o,h.get? b=some o∧∀v,o.data≠.cell v
 keep:∀i h h',tn i h→(∀b∈fp,∀o,h.get? b=some o→h'.get? b=some o)→tn i h'
 item:∀(X:Cx),X.prog=P→X.w=w→X.K=K→X.calm=true→∀(i:Nat) (pins:List (Addr × Obj)) (s:Shared) (σ:St) (H:Hp) (E:Value→Shared→Prop),Inv X pins σ H s→(∀b∈fp,FpOk X pins H b)→tn i s.heap→J.go i H→
  wpAny (model P w) X.A (pyNext (.ref it)) (fun r s1=>∃u,r=some u∧
   wpAny (model P w) X.A (letOwnedTupleGo tg (.ref it) u) (fun _ s2=>∃x H',Inv X pins σ H' s2∧RelV x u∧J.yld i H x H'∧tn (i + 1) s2.heap∧∀b∈fp,H' b=none) E s1) E s
 done:∀(X:Cx),X.prog=P→X.w=w→X.K=K→X.calm=true→∀(i:Nat) (pins:List (Addr × Obj)) (s:Shared) (σ:St) (H:Hp) (E:Value→Shared→Prop),Inv X pins σ H s→(∀b∈fp,FpOk X pins H b)→tn i s.heap→J.stop i H→
  wpAny (model P w) X.A (pyNext (.ref it)) (fun r s1=>r=none∧Inv X pins σ H s1) E s
 self:∀(A:Around) (i:Nat) (s:Shared) (Q:Value→Shared→Prop) (E:Value→Shared→Prop),tn i s.heap→Q (.ref it) s→wpAny (model P w) A (pyIter (.ref it)) Q E s
abbrev TI:=St→Hp→(It→Hp→Prop)→Prop
def PIE (X:Cx) (pins:List (Addr × Obj)) (σ:St) (tg:Expr) (R:It→Hp→Prop) (itv:Value) (s2:Shared):Prop:=
 ∃(it:Addr) (fp:List Addr) (tn:Nat→Heap→Prop) (J:It) (H':Hp),itv = .ref it∧Inv X pins σ H' s2∧Turn X.prog X.w X.K tg J fp it tn∧tn 0 s2.heap∧(∀b∈fp,FpOk X pins H' b)∧R J H'
def PI (X:Cx) (tg iter:Expr) (wi:TI):Prop:=
 ∀(pins:List (Addr × Obj)) (s:Shared) (σ:St) (H:Hp) (R:It→Hp→Prop),Inv X pins σ H s→wi σ H R→
  wpAny (model X.prog X.w) X.A (eval iter X.env) (fun v s1=>wpAny (model X.prog X.w) X.A (pyIter v) (PIE X pins σ tg R) X.xe s1) X.xe s
theorem go_of {M:Model} {A:Around} {E:Value→Shared→Prop} {s:Shared} {tg:Expr} {it:Addr} {u:Value} {o:Obj} {n:String} {vs:Array Value} {Q:Unit→Shared→Prop} (ho:s.heap.get? it=some o) (hc:o.cls = .type n) (hd:o.data = .fields vs)
    (hn:["enumerate","zip","dict_itemiterator","dict_reverseitemiterator","odict_iterator","itertools.zip_longest","itertools.pairwise"].contains n=false) (hQ:Q () s):wpAny M A (letOwnedTupleGo tg (.ref it) u) Q E s:=by
  unfold letOwnedTupleGo
  cases tg <;> first
    | exact wpAny_pure hQ
    | (cases u <;> first
        | exact wpAny_pure hQ
        | (refine wpAny_bind (wpAny_load ho ?_)
           rw [hc,hd]
           show wpAny M A (if (["enumerate","zip","dict_itemiterator","dict_reverseitemiterator","odict_iterator","itertools.zip_longest","itertools.pairwise"].contains n && vs[0]? == some (rawInt _))=true then _ else _) Q E s
           rw [if_neg (by intro h; rw [hn,Bool.false_and] at h; cases h)]
           exact wpAny_pure hQ))
def Itl (K:PySem.W.Frag) (a:Addr):It:=
 ⟨fun i H=>∃xs x,SqL K H a xs∧xs[i]? = some x,fun i H x H'=>H'=H∧∀xs,SqL K H a xs→xs[i]? = some x,fun i H=>∃xs,SqL K H a xs∧xs.length≤i⟩
def Itr (lo:Int) (n:Nat):It:=⟨fun i _=>i < n,fun i H x H'=>H'=H∧x = .int (lo + i),fun i _=>n≤i⟩
theorem turn_list {P:Program} {w:World} {K:PySem.W.Frag} {tg:Expr} (a it:Addr):Turn P w K tg (Itl K a) [it] it (fun i h=>h.IsListIter it a i) where
 mem:=by simp
 obj:=fun i h st b hb=>by
  have e:b=it:=by simpa using hb
  subst e
  obtain ⟨o,e,c,d⟩:=st
  exact ⟨o,e,fun v z=>by rw [d] at z; cases z⟩
 keep:=fun i h h' st k=>st.at fun o e=>k it (by simp) o e
 item:=by
  intro X hP hw hK hc i pins s σ H E I hf st hg
  subst hP hw hK
  obtain ⟨xs,x,hq,hx⟩:=hg
  obtain ⟨its,rv,p,hz⟩:=I.list hq
  obtain ⟨u,hu,ru⟩:=rv.get hx
  obtain ⟨f0,f1,f2,f3,f4,f5⟩:=hf it (by simp)
  refine wpAny_pyNext_list_item st p.isList (x:=u) (by simpa using hu) fun h' st' sb=>?_
  have I1:Inv X pins σ H {s with heap:=h'}:=I.turned (t':=s.toks) (fun b o hb e=>(sb.2 b hb).trans e) f0 f1 f3 f4 f5
  obtain ⟨o,e,c,d⟩:=id st'
  exact ⟨u,rfl,go_of (s:={s with heap:=h'}) e c d (by decide) ⟨x,H,I1,ru,⟨rfl,fun ys hy=>by rw [I.list_inj hy hq]; exact hx⟩,st',fun b hb=>(hf b hb).1⟩⟩
 done:=by
  intro X hP hw hK hc i pins s σ H E I hf st hg
  subst hP hw hK
  obtain ⟨xs,hq,hx⟩:=hg
  obtain ⟨its,rv,p,hz⟩:=I.list hq
  obtain ⟨f0,f1,f2,f3,f4,f5⟩:=hf it (by simp)
  have hl:=rv.length
  exact wpAny_pyNext_list_end (I.ok.hd hc) st p.isList (by simp; omega) fun h' eb=>⟨rfl,I.turned (t':=s.toks) (fun b o hb e=>eb b o hb e) f0 f1 f3 f4 f5⟩
 self:=fun _ _ _ _ _ st h=>wpAny_pyIter_listiter st h
theorem turn_range {P:Program} {w:World} {K:PySem.W.Frag} {tg:Expr} (it:Addr) (lo:Int) (n:Nat):Turn P w K tg (Itr lo n) [it] it (fun i h=>IsRangeIter h it (lo + (i:Nat) * 1) ((n:Int) - (i:Nat)) 1) where
 mem:=by simp
 obj:=fun i h st b hb=>by
  have e:b=it:=by simpa using hb
  subst e
  exact ⟨_,st,fun v z=>by
   have z':Data.fields _=Data.cell v:=z
   cases z'⟩
 keep:=fun i h h' st k=>k it (by simp) _ st
 item:=by
  intro X hP hw hK hc i pins s σ H E I hf st hg
  subst hP hw hK
  obtain ⟨f0,f1,f2,f3,f4,f5⟩:=hf it (by simp)
  have W:=Walks.range (prog:=X.prog) (w:=X.w) (I.ok.hd hc) it lo 1 n
  refine W.item i s _ _ hg st fun v h' tk hv st' kk=>?_
  obtain ⟨t,rfl⟩:=hv
  have I1:Inv X pins σ H {s with heap:=h',toks:=tk}:=I.turned (fun b o hb e=>kk b o (by simpa using hb) e) f0 f1 f3 f4 f5
  refine ⟨_,rfl,go_of (s:={s with heap:=h',toks:=tk}) (n:="range_iterator") st' rfl rfl (by decide) ⟨.int (lo + i),H,I1,⟨t,?_⟩,⟨rfl,rfl⟩,st',fun b hb=>(hf b hb).1⟩⟩
  rw [Int.mul_one]
 done:=by
  intro X hP hw hK hc i pins s σ H E I hf st hg
  subst hP hw hK
  obtain ⟨f0,f1,f2,f3,f4,f5⟩:=hf it (by simp)
  exact wpAny_pyNext_range_end (I.ok.hd hc) st (by have:n≤i:=hg; omega) fun h' eb=>⟨rfl,I.turned (t':=s.toks) (fun b o hb e=>eb b o hb e) f0 f1 f3 f4 f5⟩
 self:=fun _ _ _ _ _ st h=>wpAny_pyIter_rangeiter st h
section
variable {X:Cx} {tg:Expr}
def iList (K:PySem.W.Frag) (tl:TE):TI:=fun σ H R=>tl σ H fun x H1=>∃a,x = .ref a∧(∃xs,SqL K H1 a xs)∧R (Itl K a) H1
theorem pi_list {l:Expr} {tl:TE} (hl:PE X l tl):PI X tg l (iList X.K tl):=by
 intro pins s σ H R I h
 refine thn (hl pins s σ H _ I h) fun v s1 ⟨x,H1,I1,r1,q1⟩=>?_
 obtain ⟨a,e,⟨xs,hq⟩,q⟩:=q1
 subst e
 cases r1
 obtain ⟨its,rv,p,hz⟩:=I1.list hq
 refine wpAny_pyIter_list p.isList ?_
 refine ⟨s1.heap.objs.size,[s1.heap.objs.size],_,_,H1,rfl,I1.kept (t':=s1.toks) fun b o e=>Heap.get?_push_of_some _ e,turn_list a _,⟨_,Heap.get?_push_size _ rfl,rfl,rfl⟩,fun b hb=>?_,q⟩
 have e:b=s1.heap.objs.size:=by simpa using hb
 subst e
 exact I1.fpOk (Nat.le_refl _) (I1.hok.fresh (Nat.le_refl _))
theorem range_it {pins:List (Addr × Obj)} {σ:St} {H:Hp} {s:Shared} {R:It→Hp→Prop} {E:Value→Shared→Prop} {lo hi:Int} {t u v:Tok} {tk:Nat} (I:Inv X pins σ H s) (h1:-(2 ^ 62)≤lo) (h2:lo < 2 ^ 62) (h3:-(2 ^ 62)≤hi) (h4:hi < 2 ^ 62)
  (q:R (Itr lo (hi - lo).toNat) H):wpAny (model X.prog X.w) X.A (pyIter (.ref s.heap.objs.size)) (PIE X pins σ tg R) E {s with heap:=s.heap.push {cls:=.type "range",data:=.fields #[.int lo t,.int hi u,.int 1 v]},toks:=tk}:=by
 refine wpAny_pyIter_range (IsRange.new ..) (small_one h1 h2 h3 h4) ?_
 have I1:Inv X pins σ H {s with heap:=s.heap.push {cls:=.type "range",data:=.fields #[.int lo t,.int hi u,.int 1 v]},toks:=tk}:=I.kept fun b o e=>Heap.get?_push_of_some _ e
 refine ⟨(s.heap.push {cls:=.type "range",data:=.fields #[.int lo t,.int hi u,.int 1 v]}).objs.size,[(s.heap.push {cls:=.type "range",data:=.fields #[.int lo t,.int hi u,.int 1 v]}).objs.size],_,_,H,rfl,
  I1.kept (t':=tk) fun b o e=>Heap.get?_push_of_some _ e,turn_range _ lo (hi - lo).toNat,?_,fun b hb=>?_,q⟩
 ·have e1:lo + ((0:Nat):Int) * 1=lo:=by simp
  have e2:(((hi - lo).toNat:Nat):Int) - ((0:Nat):Int)=Builtin.Range.rangeSize lo hi 1:=by rw [rangeSize_one]; split <;> omega
  show IsRangeIter _ _ (lo + ((0:Nat):Int) * 1) ((((hi - lo).toNat:Nat):Int) - ((0:Nat):Int)) 1
  rw [e1,e2]
  exact Heap.get?_push_size _ rfl
 ·have e:b=(s.heap.push {cls:=.type "range",data:=.fields #[.int lo t,.int hi u,.int 1 v]}).objs.size:=by simpa using hb
  subst e
  exact I1.fpOk (Nat.le_refl _) (I1.hok.fresh (Nat.le_refl _))
def iRng1 (ta:TA):TI:=fun σ H R=>ta σ H fun vs H1=>∃j:Int,vs=[.int j]∧-(2 ^ 62)≤j∧j < 2 ^ 62∧R (Itr 0 j.toNat) H1
def iRng2 (ta:TA):TI:=fun σ H R=>ta σ H fun vs H1=>∃i j:Int,vs=[.int i,.int j]∧(-(2 ^ 62)≤i∧i < 2 ^ 62∧-(2 ^ 62)≤j∧j < 2 ^ 62)∧R (Itr i (j - i).toNat) H1
theorem pi_range1 {a:Expr} {ta:TA} {p pos:Pos} (hg:Gl X "range") (hm:X.mg "range" = none) (ha:PA X [a] ta) (hs:starEach [a] X.env=[(false,eval a X.env)]:=by rfl):PI X tg (.Call (.Name "range" p) [a] [] pos) (iRng1 ta):=by
 intro pins s σ H R I h
 refine Call_ (ld_blt I hg hm boot_range (PyProof.Rows.callWith_type1 (thn (ha pos pins s σ H _ I h) fun us s1 ⟨vs,H1,I1,r1,q1⟩=>?_) hs rfl))
 obtain ⟨j,e,q1,q2,q⟩:=q1
 subst e
 cases r1 with
 | cons r rr=>
  cases rr
  obtain ⟨t,rfl⟩:=r
  exact call_range_1 (range_it I1 (by omega) (by omega) q1 q2 (by simpa using q))
theorem pi_range2 {a b:Expr} {ta:TA} {p pos:Pos} (hg:Gl X "range") (hm:X.mg "range" = none) (ha:PA X [a,b] ta) (hs:starEach [a,b] X.env=[(false,eval a X.env),(false,eval b X.env)]:=by rfl) (hs2:starEach [b] X.env=[(false,eval b X.env)]:=by rfl) :
  PI X tg (.Call (.Name "range" p) [a,b] [] pos) (iRng2 ta):=by
 intro pins s σ H R I h
 refine Call_ (ld_blt I hg hm boot_range (PyProof.Rows.callWith_type1 (thn (ha pos pins s σ H _ I h) fun us s1 ⟨vs,H1,I1,r1,q1⟩=>?_) (by rw [hs,hs2]) (by rw [hs2]; rfl)))
 obtain ⟨i,j,e,⟨q1,q2,q3,q4⟩,q⟩:=q1
 subst e
 cases r1 with
 | cons r rr=>
  cases rr with
  | cons r' rr=>
   cases rr
   obtain ⟨t,rfl⟩:=r
   obtain ⟨t',rfl⟩:=r'
   exact call_range_2 (range_it I1 q1 q2 q3 q4 q)
def tFor (wi:TI) (g:TG) (tb:TS):TS:=fun D σ H=>wi σ H fun J H1=>∃W:Nat→Nat→St→Hp→Prop,(∃m,W 0 m σ H1)∧∀i m σ H,W i m σ H→
 (J.stop i H∧D.nx σ H)∨(J.go i H∧∃N:St→Hp→Prop,(∀σ' H',N σ' H'→∃m',m' < m∧W (i + 1) m' σ' H')∧∀x H',J.yld i H x H'→g x σ H' fun σ2 H2=>tb {D with nx:=N,ct:=N,bk:=D.nx} σ2 H2)
def pinsAt (fp:List Addr) (h:Heap):List (Addr × Obj):=fp.filterMap fun b=>(h.get? b).map fun o=>(b,o)
theorem mem_pinsAt {fp:List Addr} {h:Heap} {b:Addr} {o:Obj} (hb:b∈fp) (e:h.get? b=some o):(b,o)∈pinsAt fp h:=List.mem_filterMap.mpr ⟨b,hb,by rw [e]; rfl⟩
theorem of_pinsAt {fp:List Addr} {h:Heap} {p:Addr × Obj} (hp:p∈pinsAt fp h):p.1∈fp∧h.get? p.1=some p.2:=by
 obtain ⟨b,hb,e⟩:=List.mem_filterMap.mp hp
 cases q:h.get? b with
 | none=>rw [q] at e; cases e
 | some o=>
  rw [q] at e
  have e':(b,o)=p:=Option.some.inj e
  subst e'
  exact ⟨hb,q⟩
theorem Inv.pinned {pins:List (Addr × Obj)} {σ:St} {H:Hp} {s:Shared} {fp:List Addr} (I:Inv X pins σ H s) (hf:∀b∈fp,FpOk X pins H b) (ho:∀b∈fp,∃o,s.heap.get? b=some o∧∀v,o.data≠.cell v):Inv X (pins ++ pinsAt fp s.heap) σ H s:=
 I.pins_of fun p hp=>(List.mem_append.mp hp).elim (fun z=>I.pin p (List.mem_append_right _ z)) fun z=>by
  obtain ⟨hb,e⟩:=of_pinsAt z
  obtain ⟨f0,f1,f2,_⟩:=hf p.1 hb
  obtain ⟨o,e',d⟩:=ho p.1 hb
  rw [e] at e'; cases e'
  exact ⟨e,f0,f1,f2,d⟩
theorem Inv.unpinned {pins pl:List (Addr × Obj)} {σ:St} {H:Hp} {s:Shared} (I:Inv X (pins ++ pl) σ H s):Inv X pins σ H s:=I.pins_of fun p hp=>I.pin p (List.mem_append_right _ (List.mem_append_left _ hp))
theorem ps_for {iter:Expr} {body:List Stmt} {wi:TI} {g:TG} {tb:TS} {pos:Pos} (hp:PassesOwn (model X.prog X.w) X.A X.env X.xe) (hc:X.calm=true) (hi:PI X tg iter wi) (hg:PG X tg g) (hb:PSs X body tb)
  (hs:∀x,foldedSetIterable iter X.env x=pure x:=by intro _; rfl):PS X (.For tg iter body [] pos) (tFor wi g tb):=by
 intro pins s σ H D I h
 refine wpAny_For (thn (hi pins s σ H _ I h) fun v s1 h1=>thn h1 fun itv s2 h2=>?_) hs
 obtain ⟨it,fp,tn,J,H2,e,I2,T,st2,f2,W,⟨m0,w0⟩,turn⟩:=h2
 subst e
 have stat:∀{H':Hp},(∀b∈fp,H' b=none)→∀b∈fp,FpOk X pins H' b:=fun hn b hb=>⟨hn b hb,(f2 b hb).2⟩
 refine codeAny_forLoop_any (fun n s'=>∃i σ' H',Inv X pins σ' H' s'∧tn i s'.heap∧(∀b∈fp,H' b=none)∧W i n σ' H') ?_ m0 ⟨0,σ,H2,I2,st2,fun b hb=>(f2 b hb).1,w0⟩
 rintro n s3 ⟨i,σ3,H3,I3,st3,fr3,w3⟩
 rcases turn i n σ3 H3 w3 with ⟨stop,qn⟩ | ⟨go,N,hN,step⟩
 ·refine wpAny_passesOwn hp (thn (T.done X rfl rfl rfl hc i pins s3 σ3 H3 X.xe I3 (stat fr3) st3 stop) fun r s4 ⟨hr,I4⟩=>?_)
  subst hr
  exact wpAny_execs_nil ⟨σ3,H3,I4,qn⟩
 ·refine wpAny_passesOwn hp (thn (T.item X rfl rfl rfl hc i pins s3 σ3 H3 X.xe I3 (stat fr3) st3 go) fun r s4 ⟨u,hr,h4⟩=>?_)
  subst hr
  refine wpAny_passesOwn hp (thn h4 fun _ s5 ⟨x,H5,I5,r5,y5,st5,fr5⟩=>?_)
  have I5':=I5.pinned (stat fr5) (T.obj _ _ st5)
  refine wpAny_passesOwn hp (thn (hg _ s5 σ3 H5 x u _ I5' r5 (step x H5 y5)) fun _ s6 ⟨σ6,H6,I6,q6⟩=>?_)
  refine wpAny_passesOwn hp (thn (hb _ s6 σ6 H6 _ I6 q6) fun f s7 q7=>?_)
  have again:∀{σ7:St} {H7:Hp},Inv X (pins ++ pinsAt fp s5.heap) σ7 H7 s7→N σ7 H7→∃m,m < n∧∃i σ' H',Inv X pins σ' H' s7∧tn i s7.heap∧(∀b∈fp,H' b=none)∧W i m σ' H':=fun {σ7 H7} I7 n7=>by
   obtain ⟨m',hm,w7⟩:=hN σ7 H7 n7
   refine ⟨m',hm,i + 1,σ7,H7,I7.unpinned,T.keep _ _ _ st5 fun b hb o e=>(I7.pin (b,o) (List.mem_append_right _ (List.mem_append_right _ (mem_pinsAt hb e)))).1,fun b hb=>?_,w7⟩
   obtain ⟨o,e,d⟩:=T.obj _ _ st5 b hb
   exact (I7.pin (b,o) (List.mem_append_right _ (List.mem_append_right _ (mem_pinsAt hb e)))).2.1
  cases f with
  | next=>obtain ⟨σ7,H7,I7,n7⟩:=q7; exact again I7 n7
  | cont=>obtain ⟨σ7,H7,I7,n7⟩:=q7; exact again I7 n7
  | brk=>obtain ⟨σ7,H7,I7,q7⟩:=q7; exact ⟨σ7,H7,I7.unpinned,q7⟩
  | ret v=>obtain ⟨x7,σ7,H7,I7,r7,q7⟩:=q7; exact ⟨x7,σ7,H7,I7.unpinned,r7,q7⟩
end
theorem for_list {K:PySem.W.Frag} {a:Addr} {xs:List V} {g:TG} {tb:TS} {D:Ends} {σ:St} {H:Hp} (Pv:Nat→St→Hp→Prop) (h0:Pv 0 σ H) (hl:∀i σ H,i≤xs.length→Pv i σ H→SqL K H a xs)
  (hs:∀i x σ H,xs[i]? = some x→Pv i σ H→g x σ H fun σ2 H2=>tb {D with nx:=Pv (i + 1),ct:=Pv (i + 1),bk:=D.nx} σ2 H2) (hd:∀σ H,Pv xs.length σ H→D.nx σ H) :
  ∃W:Nat→Nat→St→Hp→Prop,(∃m,W 0 m σ H)∧∀i m σ H,W i m σ H→
   ((Itl K a).stop i H∧D.nx σ H)∨((Itl K a).go i H∧∃N:St→Hp→Prop,(∀σ' H',N σ' H'→∃m',m' < m∧W (i + 1) m' σ' H')∧∀x H',(Itl K a).yld i H x H'→g x σ H' fun σ2 H2=>tb {D with nx:=N,ct:=N,bk:=D.nx} σ2 H2):=by
 refine ⟨fun i m σ H=>m=xs.length - i∧i≤xs.length∧Pv i σ H,⟨xs.length,by simp,Nat.zero_le _,h0⟩,?_⟩
 rintro i m σ H ⟨rfl,hi,p⟩
 have q:=hl i σ H hi p
 by_cases hlt:i < xs.length
 ·refine .inr ⟨⟨xs,xs[i],q,by simp [hlt]⟩,Pv (i + 1),fun σ' H' p'=>⟨xs.length - (i + 1),by omega,rfl,hlt,p'⟩,fun x H' y=>?_⟩
  obtain ⟨e,y⟩:=y
  subst e
  exact hs i x σ _ (y xs q) p
 ·have e:i=xs.length:=by omega
  subst e
  exact .inl ⟨⟨xs,q,Nat.le_refl _⟩,hd σ H p⟩
theorem for_range {lo:Int} {n:Nat} {g:TG} {tb:TS} {D:Ends} {σ:St} {H:Hp} (Pv:Nat→St→Hp→Prop) (h0:Pv 0 σ H)
  (hs:∀i σ H,i < n→Pv i σ H→g (.int (lo + i)) σ H fun σ2 H2=>tb {D with nx:=Pv (i + 1),ct:=Pv (i + 1),bk:=D.nx} σ2 H2) (hd:∀σ H,Pv n σ H→D.nx σ H) :
  ∃W:Nat→Nat→St→Hp→Prop,(∃m,W 0 m σ H)∧∀i m σ H,W i m σ H→
   ((Itr lo n).stop i H∧D.nx σ H)∨((Itr lo n).go i H∧∃N:St→Hp→Prop,(∀σ' H',N σ' H'→∃m',m' < m∧W (i + 1) m' σ' H')∧∀x H',(Itr lo n).yld i H x H'→g x σ H' fun σ2 H2=>tb {D with nx:=N,ct:=N,bk:=D.nx} σ2 H2):=by
 refine ⟨fun i m σ H=>m=n - i∧i≤n∧Pv i σ H,⟨n,by simp,Nat.zero_le _,h0⟩,?_⟩
 rintro i m σ H ⟨rfl,hi,p⟩
 by_cases hlt:i < n
 ·refine .inr ⟨hlt,Pv (i + 1),fun σ' H' p'=>⟨n - (i + 1),by omega,rfl,hlt,p'⟩,fun x H' y=>?_⟩
  obtain ⟨e,y⟩:=y
  subst e y
  exact hs i σ _ hlt p
 ·have e:i=n:=by omega
  subst e
  exact .inl ⟨Nat.le_refl _,hd σ H p⟩
theorem while_by {c:TT} {tb:TS} {D:Ends} {σ:St} {H:Hp} (Pv:St→Hp→Prop) (μ:St→Hp→Nat) (h0:Pv σ H)
  (hs:∀σ H,Pv σ H→c σ H fun b H1=>if b=true then tb {D with nx:=fun σ' H'=>Pv σ' H'∧μ σ' H' < μ σ H,ct:=fun σ' H'=>Pv σ' H'∧μ σ' H' < μ σ H,bk:=D.nx} σ H1 else D.nx σ H1)
  (mono:∀σ H Q Q',(∀b H1,Q b H1→Q' b H1)→c σ H Q→c σ H Q'):tWhile c tb D σ H:=by
 refine ⟨fun m σ H=>m=μ σ H∧Pv σ H,⟨_,rfl,h0⟩,?_⟩
 rintro m σ H ⟨rfl,p⟩
 refine mono σ H _ _ (fun b H1 q=>?_) (hs σ H p)
 cases b with
 | true=>exact ⟨_,fun σ' H' ⟨p',l⟩=>⟨_,l,rfl,p'⟩,q⟩
 | false=>exact q
abbrev R2:=V→V→Hp→VK→Prop
def OpR (X:Cx) (f:Value→Value→Sem Value) (r:R2):Prop:=
 ∀(pins:List (Addr × Obj)) (s:Shared) (σ:St) (H:Hp) (x y:V) (v u:Value) (Q:VK),Inv X pins σ H s→RelV x v→RelV y u→r x y H Q→
  wpAny (model X.prog X.w) X.A (f v u) (EP X pins σ Q) X.xe s
def UnR (X:Cx) (f:Value→Sem Value) (r:V→Hp→VK→Prop):Prop:=
 ∀(pins:List (Addr × Obj)) (s:Shared) (σ:St) (H:Hp) (x:V) (v:Value) (Q:VK),Inv X pins σ H s→RelV x v→r x H Q→
  wpAny (model X.prog X.w) X.A (f v) (EP X pins σ Q) X.xe s
def CallR (X:Cx) (f:Value) (r:List V→Hp→VK→Prop):Prop:=
 ∀(pins:List (Addr × Obj)) (s:Shared) (σ:St) (H:Hp) (xs:List V) (us:List Value) (Q:VK),Inv X pins σ H s→Vals xs us→r xs H Q→
  wpAny (model X.prog X.w) X.A (call f us) (EP X pins σ Q) X.xe s
def tOp (r:R2) (ta tb:TE):TE:=fun σ H Q=>ta σ H fun x H1=>tb σ H1 fun y H2=>r x y H2 Q
def tUn (r:V→Hp→VK→Prop) (ta:TE):TE:=fun σ H Q=>ta σ H fun x H1=>r x H1 Q
def rI (C:Int→Int→Prop) (g:Int→Int→V):R2:=fun x y H Q=>∃i j,x = .int i∧y = .int j∧C i j∧Q (g i j) H
def rI0 (g:Int→Int→V):R2:=fun x y H Q=>∃i j,x = .int i∧y = .int j∧Q (g i j) H
def rU (g:Int→V):V→Hp→VK→Prop:=fun x H Q=>∃i,x = .int i∧Q (g i) H
section
variable {X:Cx} {a b c:Expr} {ta tb tc:TE} {pos:Pos}
theorem binT (ha:PE X a ta) (hb:PE X b tb) {pins:List (Addr × Obj)} {s:Shared} {σ:St} {H:Hp} {R:V→V→Hp→Prop} (I:Inv X pins σ H s)
  (h:ta σ H fun x H1=>tb σ H1 fun y H2=>R x y H2) {Q:Value→Shared→Prop} {f:Value→Value→Sem Value}
  (hf:∀v u s2 x y H2,Inv X pins σ H2 s2→RelV x v→RelV y u→R x y H2→wpAny (model X.prog X.w) X.A (f v u) Q X.xe s2) :
  wpAny (model X.prog X.w) X.A (eval a X.env) (fun v s₁=>wpAny (model X.prog X.w) X.A (eval b X.env) (fun u s₂=>wpAny (model X.prog X.w) X.A (f v u) Q X.xe s₂) X.xe s₁) X.xe s:=by
 refine thn (ha pins s σ H _ I h) fun v s1 ⟨x,H1,I1,r1,q1⟩=>?_
 refine thn (hb pins s1 σ H1 _ I1 q1) fun u s2 ⟨y,H2,I2,r2,q2⟩=>?_
 exact hf v u s2 x y H2 I2 r1 r2 q2
theorem pe_op {op:Operator} {r:R2} (ho:OpR X (binaryOp op) r) (ha:PE X a ta) (hb:PE X b tb):PE X (.BinOp a op b pos) (tOp r ta tb):=by
 intro pins s σ H Q I h
 exact wpAny_BinOp (binT ha hb I h fun v u s2 x y H2 I2 rx ry q=>ho pins s2 σ H2 x y v u Q I2 rx ry q)
theorem pe_un {op:UnaryOp} {r:V→Hp→VK→Prop} (ho:UnR X (unaryOp op) r) (ha:PE X a ta):PE X (.UnaryOp op a pos) (tUn r ta):=by
 intro pins s σ H Q I h
 exact UnaryOp_ (thn (ha pins s σ H _ I h) fun v s1 ⟨x,H1,I1,r1,q1⟩=>ho pins s1 σ H1 x v Q I1 r1 q1)
theorem opI {f:Value→Value→Sem Value} {C:Int→Int→Prop} {g:Int→Int→Int}
  (rule:∀(i j:Int) (t u:Tok) (s:Shared) (Q:Value→Shared→Prop) (E:Value→Shared→Prop),C i j→Q (.int (g i j) s.toks) {s with toks:=s.toks + 1}→wpAny (model X.prog X.w) X.A (f (.int i t) (.int j u)) Q E s) :
  OpR X f (rI C fun i j=>.int (g i j)):=by
 intro pins s σ H x y v u Q I rx ry h
 obtain ⟨i,j,rfl,rfl,hc,q⟩:=h
 obtain ⟨t,rfl⟩:=rx
 obtain ⟨t',rfl⟩:=ry
 exact rule i j t t' s _ _ hc ⟨.int (g i j),H,I.tok _,⟨_,rfl⟩,q⟩
theorem opI0 {f:Value→Value→Sem Value} {g:Int→Int→Int}
  (rule:∀(i j:Int) (t u:Tok) (s:Shared) (Q:Value→Shared→Prop) (E:Value→Shared→Prop),Q (.int (g i j) s.toks) {s with toks:=s.toks + 1}→wpAny (model X.prog X.w) X.A (f (.int i t) (.int j u)) Q E s) :
  OpR X f (rI0 fun i j=>.int (g i j)):=by
 intro pins s σ H x y v u Q I rx ry h
 obtain ⟨i,j,rfl,rfl,q⟩:=h
 obtain ⟨t,rfl⟩:=rx
 obtain ⟨t',rfl⟩:=ry
 exact rule i j t t' s _ _ ⟨.int (g i j),H,I.tok _,⟨_,rfl⟩,q⟩
theorem opB0 {f:Value→Value→Sem Value} {g:Int→Int→Bool}
  (rule:∀(i j:Int) (t u:Tok) (s:Shared) (Q:Value→Shared→Prop) (E:Value→Shared→Prop),Q (.bool (g i j)) s→wpAny (model X.prog X.w) X.A (f (.int i t) (.int j u)) Q E s) :
  OpR X f (rI0 fun i j=>.bl (g i j)):=by
 intro pins s σ H x y v u Q I rx ry h
 obtain ⟨i,j,rfl,rfl,q⟩:=h
 obtain ⟨t,rfl⟩:=rx
 obtain ⟨t',rfl⟩:=ry
 exact rule i j t t' s _ _ ⟨.bl (g i j),H,I,rfl,q⟩
def CDiv (i j:Int):Prop:=0 < j∧j < 1073741824
def CPow (i j:Int):Prop:=0≤j∧j≤1000000∧i.natAbs < 2 ^ 64
def CMul (i j:Int):Prop:=(-(2 ^ 64) < i∧i < 2 ^ 64)∨(-(2 ^ 64) < j∧j < 2 ^ 64)
theorem CMul.ok {i j:Int} (h:CMul i j):IntMulOk i j:=by
 rcases h with ⟨h1,h2⟩ | ⟨h1,h2⟩
 ·exact .of_left (intBits_le_64 h1 h2)
 ·exact .of_right (intBits_le_64 h1 h2)
theorem op_add:OpR X (binaryOp .Add) (rI0 fun i j=>.int (i + j)):=opI0 fun _ _ _ _ _ _ _ q=>add_int q
theorem op_sub:OpR X (binaryOp .Sub) (rI0 fun i j=>.int (i - j)):=opI0 fun _ _ _ _ _ _ _ q=>sub_int q
theorem op_mul:OpR X (binaryOp .Mult) (rI CMul fun i j=>.int (i * j)):=opI fun _ _ _ _ _ _ _ hc q=>mul_int q hc.ok
theorem op_fdiv:OpR X (binaryOp .FloorDiv) (rI CDiv fun i j=>.int (i / j)):=opI fun i j _ _ _ _ _ hc q=>by
 have h1:(0:Int) < j:=hc.1
 have h2:j < 1073741824:=hc.2
 exact floordiv_int (by omega) (by rw [Int.fdiv_eq_ediv_of_nonneg i (by omega)]; exact q) (.inl (PyProof.noPylong_small (by omega)))
theorem op_mod:OpR X (binaryOp .Mod) (rI (fun _ j=>0 < j) fun i j=>.int (i % j)):=opI fun i j _ _ _ _ _ hc q=>by
 have h1:(0:Int) < j:=hc
 exact mod_int' (by omega) (by rw [Int.fmod_eq_emod_of_nonneg i (by omega)]; exact q)
theorem op_pow:OpR X (binaryOp .Pow) (rI CPow fun i j=>.int (i ^ j.toNat)):=opI fun _ _ _ _ _ _ _ hc q=>pow_int_small hc.1 hc.2.1 hc.2.2 q
theorem unI {f:Value→Sem Value} {g:Int→Int}
  (rule:∀(i:Int) (t:Tok) (s:Shared) (Q:Value→Shared→Prop) (E:Value→Shared→Prop),Q (.int (g i) s.toks) {s with toks:=s.toks + 1}→wpAny (model X.prog X.w) X.A (f (.int i t)) Q E s) :
  UnR X f (rU fun i=>.int (g i)):=by
 intro pins s σ H x v Q I rx h
 obtain ⟨i,rfl,q⟩:=h
 obtain ⟨t,rfl⟩:=rx
 exact rule i t s _ _ ⟨.int (g i),H,I.tok _,⟨_,rfl⟩,q⟩
theorem un_neg:UnR X (unaryOp .USub) (rU fun i=>.int (-i)):=unI fun _ _ _ _ _ q=>neg_int q
end
def scal:V→V→Bool
 | .non,.non=>true | .non,.int _=>true | .int _,.non=>true | .non,.bl _=>true | .bl _,.non=>true | .non,.str _=>true | .str _,.non=>true
 | .int _,.int _=>true | .bl _,.bl _=>true | .str _,.str _=>true | .byt _,.byt _=>true
 | .int _,.str _=>true | .str _,.int _=>true | .bl _,.str _=>true | .str _,.bl _=>true
 | _,_=>false
def rEq:R2:=fun x y H Q=>scal x y=true∧Q (.bl (decide (x=y))) H
def rNe:R2:=fun x y H Q=>scal x y=true∧Q (.bl (!decide (x=y))) H
theorem dec_int {i j:Int}:decide (V.int i=V.int j)=(i == j):=by
 rw [Bool.eq_iff_iff]
 simp
theorem dec_bl {i j:Bool}:decide (V.bl i=V.bl j)=(i == j):=by
 rw [Bool.eq_iff_iff]
 simp
theorem dec_str {i j:Str}:decide (V.str i=V.str j)=(i == j):=by
 rw [Bool.eq_iff_iff]
 simp
theorem dec_byt {i j:Array UInt8}:decide (V.byt i=V.byt j)=(i.toList == j.toList):=by
 rw [Bool.eq_iff_iff]
 cases i
 cases j
 simp
section
variable {X:Cx} {a b c:Expr} {ta tb tc:TE} {pos:Pos}
theorem fin_bl {pins:List (Addr × Obj)} {σ:St} {H:Hp} {s:Shared} {Q:VK} {k k':Bool} (I:Inv X pins σ H s) (q:Q (.bl k) H) (e:k=k'):EP X pins σ Q (.bool k') s:=by
 subst e
 exact ⟨.bl k,H,I,rfl,q⟩
theorem op_eq:OpR X (compareOp .Eq) rEq:=by
 intro pins s σ H x y v u Q I rx ry h
 obtain ⟨hs,q⟩:=h
 cases x with
 | non=>
  cases rx
  cases y with
  | non=>cases ry; exact PySem.EqNone.eq_none_none (fin_bl I q (by simp))
  | bl j=>cases ry; exact PySem.EqNone.eq_none_bool (fin_bl I q (by simp))
  | int j=>obtain ⟨t',rfl⟩:=ry; exact PySem.EqNone.eq_none_int (fin_bl I q (by simp))
  | str j=>obtain ⟨t',rfl⟩:=ry; exact PySem.EqNone.eq_none_str (fin_bl I q (by simp))
  | _=>exact absurd (show false=true from hs) Bool.false_ne_true
 | bl i=>
  cases rx
  cases y with
  | non=>cases ry; exact PySem.EqNone.eq_bool_none (fin_bl I q (by simp))
  | bl j=>cases ry; exact eq_bool (fin_bl I q dec_bl)
  | str j=>obtain ⟨t',rfl⟩:=ry; exact PySem.EqMixed.eq_bool_str (fin_bl I q (by simp))
  | _=>exact absurd (show false=true from hs) Bool.false_ne_true
 | int i=>
  obtain ⟨t,rfl⟩:=rx
  cases y with
  | non=>cases ry; exact PySem.EqNone.eq_int_none (fin_bl I q (by simp))
  | int j=>obtain ⟨t',rfl⟩:=ry; exact eq_int (fin_bl I q dec_int)
  | str j=>obtain ⟨t',rfl⟩:=ry; exact PySem.EqMixed.eq_int_str (fin_bl I q (by simp))
  | _=>exact absurd (show false=true from hs) Bool.false_ne_true
 | str i=>
  obtain ⟨t,rfl⟩:=rx
  cases y with
  | non=>cases ry; exact PySem.EqNone.eq_str_none (fin_bl I q (by simp))
  | bl j=>cases ry; exact PySem.EqMixed.eq_str_bool (fin_bl I q (by simp))
  | int j=>obtain ⟨t',rfl⟩:=ry; exact PySem.EqMixed.eq_str_int (fin_bl I q (by simp))
  | str j=>obtain ⟨t',rfl⟩:=ry; exact eq_str (fin_bl I q dec_str)
  | _=>exact absurd (show false=true from hs) Bool.false_ne_true
 | byt i=>
  obtain ⟨t,rfl⟩:=rx
  cases y with
  | byt j=>obtain ⟨t',rfl⟩:=ry; exact PySem.W.eq_bytes (fin_bl I q dec_byt)
  | _=>exact absurd (show false=true from hs) Bool.false_ne_true
 | _=>cases y <;> exact absurd (show false=true from hs) Bool.false_ne_true
theorem op_ne:OpR X (compareOp .NotEq) rNe:=by
 intro pins s σ H x y v u Q I rx ry h
 obtain ⟨hs,q⟩:=h
 cases x with
 | non=>
  cases rx
  cases y with
  | non=>cases ry; exact PySem.EqNone.ne_none_none (fin_bl I q (by simp))
  | bl j=>cases ry; exact PySem.EqNone.ne_none_bool (fin_bl I q (by simp))
  | int j=>obtain ⟨t',rfl⟩:=ry; exact PySem.EqNone.ne_none_int (fin_bl I q (by simp))
  | str j=>obtain ⟨t',rfl⟩:=ry; exact PySem.EqNone.ne_none_str (fin_bl I q (by simp))
  | _=>exact absurd (show false=true from hs) Bool.false_ne_true
 | bl i=>
  cases rx
  cases y with
  | non=>cases ry; exact PySem.EqNone.ne_bool_none (fin_bl I q (by simp))
  | bl j=>cases ry; exact ne_bool (fin_bl I q (congrArg not dec_bl))
  | str j=>obtain ⟨t',rfl⟩:=ry; exact PySem.EqMixed.ne_bool_str (fin_bl I q (by simp))
  | _=>exact absurd (show false=true from hs) Bool.false_ne_true
 | int i=>
  obtain ⟨t,rfl⟩:=rx
  cases y with
  | non=>cases ry; exact PySem.EqNone.ne_int_none (fin_bl I q (by simp))
  | int j=>obtain ⟨t',rfl⟩:=ry; exact ne_int (fin_bl I q (congrArg not dec_int))
  | str j=>obtain ⟨t',rfl⟩:=ry; exact PySem.EqMixed.ne_int_str (fin_bl I q (by simp))
  | _=>exact absurd (show false=true from hs) Bool.false_ne_true
 | str i=>
  obtain ⟨t,rfl⟩:=rx
  cases y with
  | non=>cases ry; exact PySem.EqNone.ne_str_none (fin_bl I q (by simp))
  | bl j=>cases ry; exact PySem.EqMixed.ne_str_bool (fin_bl I q (by simp))
  | int j=>obtain ⟨t',rfl⟩:=ry; exact PySem.EqMixed.ne_str_int (fin_bl I q (by simp))
  | str j=>obtain ⟨t',rfl⟩:=ry; exact ne_str (fin_bl I q (congrArg not dec_str))
  | _=>exact absurd (show false=true from hs) Bool.false_ne_true
 | byt i=>
  obtain ⟨t,rfl⟩:=rx
  cases y with
  | byt j=>obtain ⟨t',rfl⟩:=ry; exact PySem.W.ne_bytes (fin_bl I q (congrArg not dec_byt))
  | _=>exact absurd (show false=true from hs) Bool.false_ne_true
 | _=>cases y <;> exact absurd (show false=true from hs) Bool.false_ne_true
theorem op_lt:OpR X (compareOp .Lt) (rI0 fun i j=>.bl (decide (i < j))):=opB0 fun _ _ _ _ _ _ _ q=>lt_int q
theorem op_le:OpR X (compareOp .LtE) (rI0 fun i j=>.bl (decide (i≤j))):=opB0 fun _ _ _ _ _ _ _ q=>le_int q
theorem op_gt:OpR X (compareOp .Gt) (rI0 fun i j=>.bl (decide (j < i))):=opB0 fun _ _ _ _ _ _ _ q=>gt_int q
theorem op_ge:OpR X (compareOp .GtE) (rI0 fun i j=>.bl (decide (j≤i))):=opB0 fun _ _ _ _ _ _ _ q=>ge_int q
theorem op_in_str:OpR X (compareOp .In) (fun x y H Q=>∃i j,x = .str i∧y = .str j∧Q (.bl (!(Builtin.Str.occurrences j i 0 j.length 1).isEmpty)) H):=by
 intro pins s σ H x y v u Q I rx ry h
 obtain ⟨i,j,rfl,rfl,q⟩:=h
 obtain ⟨t,rfl⟩:=rx
 obtain ⟨t',rfl⟩:=ry
 exact in_str (fin_bl I q rfl)
theorem op_isN:OpR X (compareOp .Is) (fun x y H Q=>y = .non∧Q (.bl (decide (x = .non))) H):=by
 intro pins s σ H x y v u Q I rx ry h
 obtain ⟨rfl,q⟩:=h
 cases ry
 refine is_none_gen (fin_bl I q ?_)
 cases x <;> first
  | (cases rx; rfl)
  | (obtain ⟨t,rfl⟩:=rx; rfl)
theorem nomark (b:Expr) {op:CmpOp} (h:op≠.In:=by decide) (h2:op≠.NotIn:=by decide):behindInMarks op b=false:=by
 have e1:(op == CmpOp.In)=false:=by cases op <;> first | rfl | exact absurd rfl h
 have e2:(op == CmpOp.NotIn)=false:=by cases op <;> first | rfl | exact absurd rfl h2
 cases b <;> simp [behindInMarks,e1,e2]
theorem pe_cmpR {op:CmpOp} {r:R2} (ho:OpR X (compareOp op) r) (ha:PE X a ta) (hb:PE X b tb) (hm:behindInMarks op b=false):PE X (.Compare a [op] [b] pos) (tOp r ta tb):=by
 intro pins s σ H Q I h
 exact wpAny_Compare1 (binT ha hb I h fun v u s2 x y H2 I2 rx ry q=>ho pins s2 σ H2 x y v u Q I2 rx ry q) hm
def tTest (t:TE):TT:=fun σ H Q=>t σ H fun x H'=>∃k,x = .bl k∧Q k H'
theorem pt_cmpR {op:CmpOp} {r:R2} (ho:OpR X (compareOp op) r) (ha:PE X a ta) (hb:PE X b tb) (hm:behindInMarks op b=false):PT X (.Compare a [op] [b] pos) (tTest (tOp r ta tb)):=by
 intro pins s σ H Q I h
 refine wpAny_isTrue_Compare1 (thn (ha pins s σ H _ I h) fun v s1 ⟨x,H1,I1,r1,q1⟩=>thn (hb pins s1 σ H1 _ I1 q1) fun u s2 ⟨y,H2,I2,r2,q2⟩=>
  thn (ho pins s2 σ H2 x y v u _ I2 r1 r2 q2) fun c s3 ⟨z,H3,I3,r3,k,e,q3⟩=>?_) hm
 subst e
 cases r3
 exact wpAny_truthy_bool ⟨H3,I3,q3⟩
theorem line63:(sizeLine:Nat) < 2 ^ 63:=by rw [sizeLine_eq]; decide
theorem op_add_str:OpR X (binaryOp .Add) (fun x y H Q=>∃i j,x = .str i∧y = .str j∧i.length + j.length≤sizeLine∧Q (.str (i ++ j)) H):=by
 intro pins s σ H x y v u Q I rx ry h
 obtain ⟨i,j,rfl,rfl,hz,q⟩:=h
 obtain ⟨t,rfl⟩:=rx
 obtain ⟨t',rfl⟩:=ry
 exact add_str (fun t' tk=>⟨.str (i ++ j),H,I.tok _,⟨_,rfl⟩,q⟩) hz
theorem vals1 {x:V} {us:List Value} (r:Vals [x] us):∃u,us=[u]∧RelV x u:=by
 cases r with
 | cons r1 r2=>cases r2; exact ⟨_,rfl,r1⟩
theorem vals2 {x y:V} {us:List Value} (r:Vals [x,y] us):∃u w',us=[u,w']∧RelV x u∧RelV y w':=by
 cases r with
 | cons r1 r2=>
  cases r2 with
  | cons r3 r4=>cases r4; exact ⟨_,_,rfl,r1,r3⟩
theorem call_abs:CallR X (.builtin "abs") (fun xs H Q=>∃i,xs=[.int i]∧Q (.int (if i < 0 then -i else i)) H):=by
 intro pins s σ H xs us Q I r h
 obtain ⟨i,rfl,q⟩:=h
 obtain ⟨u,rfl,t,rfl⟩:=vals1 r
 exact call_abs_int fun u tk=>⟨.int (if i < 0 then -i else i),H,I.tok _,⟨_,rfl⟩,q⟩
theorem call_max2 (hc:X.calm=true):CallR X (.builtin "max") (fun xs H Q=>∃i j,xs=[.int i,.int j]∧Q (.int (if j > i then j else i)) H):=by
 intro pins s σ H xs us Q I r h
 obtain ⟨i,j,rfl,q⟩:=h
 obtain ⟨u,w',rfl,⟨t,rfl⟩,⟨t',rfl⟩⟩:=vals2 r
 refine max_two_ints (I.ok.hd hc) fun h' tk k=>⟨_,H,I.kept k,?_,q⟩
 by_cases hj:j > i
 ·rw [if_pos hj,if_pos hj]; exact ⟨_,rfl⟩
 ·rw [if_neg hj,if_neg hj]; exact ⟨_,rfl⟩
theorem call_min2 (hc:X.calm=true):CallR X (.builtin "min") (fun xs H Q=>∃i j,xs=[.int i,.int j]∧Q (.int (if j < i then j else i)) H):=by
 intro pins s σ H xs us Q I r h
 obtain ⟨i,j,rfl,q⟩:=h
 obtain ⟨u,w',rfl,⟨t,rfl⟩,⟨t',rfl⟩⟩:=vals2 r
 refine min_two_ints (I.ok.hd hc) fun h' tk k=>⟨_,H,I.kept k,?_,q⟩
 by_cases hj:j < i
 ·rw [if_pos hj,if_pos hj]; exact ⟨_,rfl⟩
 ·rw [if_neg hj,if_neg hj]; exact ⟨_,rfl⟩
theorem call_int1:CallR X (.type "int") (fun xs H Q=>(∃i,xs=[.int i]∧Q (.int i) H)∨∃k,xs=[.bl k]∧Q (.int (if k then 1 else 0)) H):=by
 intro pins s σ H xs us Q I r h
 rcases h with ⟨i,rfl,q⟩ | ⟨k,rfl,q⟩
 ·obtain ⟨u,rfl,t,rfl⟩:=vals1 r
  exact call_int_int ⟨.int i,H,I,⟨_,rfl⟩,q⟩
 ·obtain ⟨u,rfl,r1⟩:=vals1 r
  cases r1
  exact call_int_bool ⟨.int (if k then 1 else 0),H,I.tok _,⟨_,rfl⟩,q⟩
end
structure ObjM (h:Heap) (x dx C:Addr) (mA:Str→Option Value):Prop where
 obj:h.get? x=some (PySem.W.instObj C dx)
 ns:h.Ns1 dx mA
 ne:dx≠x
theorem lookIn_ns {h:Heap} {dx:Addr} {mA:Str→Option Value} (n:h.Ns1 dx mA):∃od,h.get? dx=some od∧∀name,PySem.W.lookIn name od=some (mA name):=by
 obtain ⟨o,es,ep,ho,hd,hk,_,hm⟩:=n
 refine ⟨o,ho,fun name=>?_⟩
 have e:=hm name
 unfold nsFind findBy at e
 rw [← Array.find?_toList] at e
 unfold PySem.W.lookIn
 rw [hd]
 dsimp only
 split
 ·rename_i y q
  rw [q] at e
  exact congrArg some e
 ·rename_i q
  rw [q] at e
  have a:es.toList.any (·.refKey)=false:=by
   rw [List.any_eq_false]
   intro y hy
   obtain ⟨z,t,hkey⟩:=hk y (Array.mem_toList_iff.mp hy)
   simp [DictEntry.refKey,hkey]
  have a':¬es.toList.any (·.refKey)=true:=by rw [a]; exact Bool.false_ne_true
  rw [if_neg a']
  exact congrArg some e
theorem ObjM.look {h:Heap} {x dx C:Addr} {mA:Str→Option Value} (I:ObjM h x dx C mA):∃od,PySem.W.InstAt h x (PySem.W.instObj C dx) C (some od)∧∀name,PySem.W.lookIn name od=some (mA name):=
 let ⟨od,ho,hl⟩:=lookIn_ns I.ns
 ⟨od,⟨I.obj,rfl,rfl,ho⟩,hl⟩
section
variable {prog:Program} {w:World} {A:Around} {E:Value→Shared→Prop} {s:Shared} {K:PySem.W.Frag} {x dx C f:Addr} {mA:Str→Option Value} {name:Str} {v:Value}
end
theorem RelO.some_of {v:V} {o:Option Value} (r:RelO (some v) o):∃u,o=some u∧RelV v u:=by
 cases o with
 | none=>exact (show False from r).elim
 | some u=>exact ⟨u,rfl,r⟩
theorem handed_of {v:V} {u:Value} (r:RelV v u):PySem.W.handedIn u=true:=by
 cases v with
 | non=>cases (show u=Value.none from r); rfl
 | bl b=>cases (show u=Value.bool b from r); rfl
 | int i=>obtain ⟨t,e⟩:=(show ∃t,u=Value.int i t from r); cases e; rfl
 | str x=>obtain ⟨t,e⟩:=(show ∃t,u=Value.str x t from r); cases e; rfl
 | byt b=>obtain ⟨t,e⟩:=(show ∃t,u=Value.bytes b t from r); cases e; rfl
 | flt b=>obtain ⟨t,e⟩:=(show ∃t,u=Value.float b t from r); cases e; rfl
 | ref a=>cases (show u=Value.ref a from r); rfl
 | ty n=>cases (show u=Value.type n from r); rfl
section
variable {P:Program} {w:World} {H H':Hp} {h h':Heap} {a C dx:Addr} {fs fs':List (Str × V)}
theorem ins_get (hok:HOk P w H h) (e:H a=some (.ins C dx fs)):∃mA,ObjM h a dx C mA∧(∀f,RelO (fs.lookup f) (mA f))∧PySem.Within mA (fs.map (·.1))∧fs.length≤1000∧H dx=some (.own a):=by
 obtain ⟨d,z,ne,ob,mA,n,r,q⟩:=(show ObjOk P w H h a (.ins C dx fs) from hok a _ e)
 exact ⟨mA,⟨ob,n,ne⟩,r,q,z,d⟩
end
structure Cls (K:PySem.W.Frag) (C:Addr):Prop where
 pg:PySem.W.plainGet K C Str.empty=true
 hd:PySem.W.hasDictIn K C=true
 po:PySem.W.plainOver K C=true
 sa:PySem.W.findIn K (.ref C) "__setattr__" = some (some (.builtin "object.__setattr__"))
theorem Cls.get {K:PySem.W.Frag} {C:Addr} (c:Cls K C) (f:Str):PySem.W.plainGet K C f=true:=c.pg
section
variable {X:Cx} {pins:List (Addr × Obj)} {σ:St} {H:Hp} {s:Shared} {a C dx:Addr} {fs:List (Str × V)} {f:Str} {v:V} {A:Around} {E:Value→Shared→Prop}
theorem attr_of {prog:Program} {w:World} {env:Env} {e:Expr} {f:Str} {pos:Pos} {s:Shared} {Q:Value→Shared→Prop} (hb:attributeBase e f env (eval e env)=eval e env)
  (h:wpAny (model prog w) A (eval e env) (fun o s₁=>wpAny (model prog w) A (getAttr o f true) Q E s₁) E s):wpAny (model prog w) A (eval (.Attribute e f pos) env) Q E s:=
 Attribute_any_ h (by rw [arm_eval_Attribute,hb])
end
section
variable {X:Cx} {o e value:Expr} {f:Str} {pos pos' tpos:Pos} {ta tv:TE}
end
section
variable {X:Cx} {pins:List (Addr × Obj)} {σ:St} {H:Hp} {s:Shared} {A:Around} {E:Value→Shared→Prop} {Q:Value→Shared→Prop} {c:Value} {b:Bool}
inductive TyOf (K:PySem.W.Frag) (H:Hp):V→Value→Prop where
 | non:TyOf K H .non (.type "NoneType")
 | bl (x:Bool):TyOf K H (.bl x) (.type "bool")
 | int (i:Int):TyOf K H (.int i) (.type "int")
 | str (x:Str):TyOf K H (.str x) (.type "str")
 | flt (x:UInt64):TyOf K H (.flt x) (.type "float")
 | lst {a:Addr} {xs:List V} (e:H a=some (.lst xs)):TyOf K H (.ref a) (.type "list")
 | frz {a:Addr} {o:Obj} {xs:List V} (e:H a=some (.frz o (.lst xs))):TyOf K H (.ref a) (.type "list")
 | tup {a:Addr} {xs:List V} (e:H a=some (.tup xs)):TyOf K H (.ref a) (.type "tuple")
 | dK {a:Addr} {kvs:List (Key × V)} (e:H a=some (.dK kvs)):TyOf K H (.ref a) (.type "dict")
 | dT {a:Addr} {kvs:List (List Key × V)} (e:H a=some (.dT kvs)):TyOf K H (.ref a) (.type "dict")
 | ins {a C dx:Addr} {fs:List (Str × V)} (e:H a=some (.ins C dx fs)) (cl:Cls K C) (ha:PySem.W.findIn K (.ref C) "__class__" = some (some (.builtin "object.__class__")))
   (hn:PySem.W.specialIn K (.builtin "object.__class__") "__get__" = some (some (.builtin "getset_descriptor.__get__"))) (htk:PySem.W.takesIn K (.builtin "object.__class__")=some true)
   (hm:PySem.W.mroIn K C (.type "object")=some true):TyOf K H (.ref a) (.ref C)
end
structure Room (k:Nat) (A:Around):Prop where
 hd:A.handled=none
 dp:A.depth + 3 * k + 5 < recursionLimit
 un:A.units + 16 * k + 200 < cLine
theorem Room.mono {j k:Nat} {A:Around} (r:Room k A) (h:j≤k):Room j A:=⟨r.hd,by have:=r.dp; omega,by have:=r.un; omega⟩
theorem Room.deeper {k:Nat} {A:Around} (r:Room (k + 1) A) (env:Env):Room k (A.deeper env):=
 ⟨r.hd,by have:=r.dp; show A.depth + 1 + 3 * k + 5 < _; omega,by have:=r.un; show A.units + 3 + 16 * k + 200 < _; omega⟩
theorem make_depth {A:Around} {C:Addr} {us:List Value} {kw:List (Str × Value)}:(A.under (.builtin "type.__call__" ⟨.ref C :: us,kw⟩)).depth=A.depth + 1:=by
 first | rfl | simp [Around.under,Code.weight,Code.isCreation,Code.isGuard,Code.isCaller,Code.frames,Code.isFrame,guardIds]
theorem make_units {A:Around} {C:Addr} {us:List Value} {kw:List (Str × Value)}:(A.under (.builtin "type.__call__" ⟨.ref C :: us,kw⟩)).units=A.units + 1:=by
 first | rfl | simp [Around.under,Code.cUnits,Code.frames,Code.isFrame]
theorem Room.make {k:Nat} {A:Around} (r:Room (k + 1) A) (C:Addr) (us:List Value) (kw:List (Str × Value)):Room k (A.under (.builtin "type.__call__" ⟨.ref C :: us,kw⟩)):=
 ⟨r.hd,by have:=r.dp; rw [make_depth]; omega,by have:=r.un; rw [make_units]; omega⟩
theorem Room.depth {k:Nat} {A:Around} (r:Room k A):A.depth < recursionLimit:=by have:=r.dp; omega
def tNil:TA:=fun _ H Q=>Q [] H
def tCons (ta:TE) (tr:TA):TA:=fun σ H Q=>ta σ H fun x H1=>tr σ H1 fun xs H2=>Q (x :: xs) H2
section
variable {X:Cx} {e:Expr} {es:List Expr} {te:TE} {t:TA} {pos:Pos}
theorem pa_nil:PA X [] tNil:=fun _ _ _ _ H Q I h=>Calls.spliced_nil ⟨[],H,I,.nil,h⟩
theorem pa_cons (ha:PE X e te) (hr:PA X es t) (hs:starEach (e :: es) X.env=(false,eval e X.env) :: starEach es X.env:=by rfl):PA X (e :: es) (tCons te t):=by
 intro pos pins s σ H Q I h
 rw [hs]
 show wpAny _ _ (spliced ((false,eval e X.env) :: backTo pos (starEach es X.env))) _ _ s
 refine Calls.spliced_cons (thn (ha pins s σ H _ I h) fun u s1 ⟨x,H1,I1,r1,q1⟩=>?_)
 exact thn (hr pos pins s1 σ H1 _ I1 q1) fun us s2 ⟨xs,H2,I2,r2,q2⟩=>⟨x :: xs,H2,I2,.cons r1 r2,q2⟩
def tTup (t:TA):TE:=fun σ H Q=>t σ H fun xs H1=>xs.length≤sizeLine∧∀p,H1 p=none→Q (.ref p) (upd H1 p (.tup xs))
def tLst (t:TA):TE:=fun σ H Q=>t σ H fun xs H1=>xs.length≤sizeLine∧∀p,H1 p=none→Q (.ref p) (upd H1 p (.lst xs))
theorem pe_tup {x1} (h:PA X es t):PE X (.Tuple es x1 pos) (tTup t):=by
 intro pins s σ H Q I hq
 refine wpAny_Tuple_spliced (thn (h pos pins s σ H _ I hq) fun us s1 ⟨xs,H1,I1,r,z,q⟩=>⟨by rw [← r.length]; exact z,?_⟩)
 have hf:H1 s1.heap.objs.size=none:=I1.hok.fresh (Nat.le_refl _)
 refine ⟨.ref s1.heap.objs.size,upd H1 s1.heap.objs.size (.tup xs),I1.laid (t':=s1.toks) (fun b u e=>Heap.get?_push_of_some _ e) (Nat.le_refl _) ?_,rfl,q _ hf⟩
 exact ⟨z,us,r,⟨_,Heap.get?_push_size _ rfl,rfl,_,rfl⟩⟩
theorem pe_lst (h:PA X es t):PE X (.List es pos) (tLst t):=by
 intro pins s σ H Q I hq
 refine wpAny_List_spliced (thn (h pos pins s σ H _ I hq) fun us s1 ⟨xs,H1,I1,r,z,q⟩=>⟨by rw [← r.length]; exact z,?_⟩)
 have hf:H1 s1.heap.objs.size=none:=I1.hok.fresh (Nat.le_refl _)
 refine ⟨.ref s1.heap.objs.size,upd H1 s1.heap.objs.size (.lst xs),I1.laid (t':=s1.toks) (fun b u e=>Heap.get?_push_of_some _ e) (Nat.le_refl _) ?_,rfl,q _ hf⟩
 exact ⟨z,us,0,r,Heap.get?_push_size _ rfl⟩
end
abbrev Sp:=List V→Hp→VK→XK→Prop
abbrev CXT:=List Env→Hp→Shared→XK→Value→Shared→Prop
structure Env0 (P:Program) (w:World) (K:PySem.W.Frag) (mg:Str→Option Value) (base:Heap) (A:Around) (outer:List Env) (s:Shared) (H:Hp):Prop where
 frames:A.frames=some outer
 mod:Mod K mg base
 bs:∀b o,base.get? b=some o→s.heap.get? b=some o∧H b=none
 bsz:base.objs.size≤s.heap.objs.size
 funs:s.heap.FunFrames base outer
 frf:∀b∈frs outer,H b=none
 hok:HOk P w H s.heap
 bare:AllBare s.gens
def CE (outer:List Env) (P:Program) (w:World) (H:Hp) (s:Shared) (Q:VK) (u:Value) (s':Shared):Prop:=
 ∃v H',s'.os=s.os∧AllBare s'.gens∧Un (frs outer) [] H H' s.heap s'.heap∧HOk P w H' s'.heap∧RelV v u∧Q v H'
def CR (CX:CXT) (outer:List Env) (P:Program) (w:World) (H:Hp) (s:Shared) (Q:VK) (E:XK) (r:Result) (s':Shared):Prop:=
 match r with
 | .ok (.ret u)=>CE outer P w H s Q u s'
 | .ok _=>False
 | .error e=>CX outer H s E e s'
structure FnOk (P:Program) (w:World) (K:PySem.W.Frag) (mg:Str→Option Value) (base:Heap) (CX:CXT) (k:Nat) (f:Addr) (fd:FuncData) (ps:List Str) (sp:Sp):Prop where
 len:∀vs H Q E,sp vs H Q E→vs.length=ps.length
 run:∀(A:Around) (outer:List Env) (s:Shared) (H:Hp) (args:Args) (us:List Value) (vs:List V) (Q:VK) (E:XK),Room k A→Env0 P w K mg base A outer s H→BindsTo s fd args (ps.zip us)→Vals vs us→sp vs H Q E→
  codeAny (model P w) A (.call (.ref f) args) (CR CX outer P w H s Q E) s
section
variable {X:Cx} {pins:List (Addr × Obj)} {σ:St} {H:Hp} {s s':Shared}
theorem Inv.env0 (I:Inv X pins σ H s):Env0 X.prog X.w X.K X.mg X.base X.A X.stack s H:=
 ⟨I.ok.frames,I.ok.mod,I.bs,Nat.le_trans I.ok.bsz I.sz,I.stack,I.stkFree,I.hok,I.bare⟩
theorem Inv.after {Q:VK} {u:Value} (I:Inv X pins σ H s) (h:CE X.stack X.prog X.w H s Q u s'):EP X pins σ Q u s':=by
 obtain ⟨v,H',os,bare,un,hok,r,q⟩:=h
 obtain ⟨hh,g,d,t,os'⟩:=s'
 obtain rfl:os'=s.os:=os
 exact ⟨v,H',I.call (h':=hh) (g':=g) (d':=d) (t':=t) (ch:=[]) un hok bare (fun b z=>absurd z (by simp)),r,q⟩
end
def tCall (sp:Sp) (dvs:List V) (E:XK) (t:TA):TE:=fun σ H Q=>t σ H fun vs H1=>sp (vs ++ dvs) H1 Q E
def Binds (K:PySem.W.Frag) (fd:FuncData) (ps:List Str) (ds:List Value):Prop:=
 ∀(s:Shared) (us:List Value),K.In s.heap→(us ++ ds).length=ps.length→BindsTo s fd ⟨us,[]⟩ (ps.zip (us ++ ds))
theorem Binds.all {K:PySem.W.Frag} {fd:FuncData} {ps:List Str} (h:∀us:List Value,us.length=ps.length→bindArgs fd ⟨us,[]⟩=pure (ps.zip us)):Binds K fd ps []:=fun s us _ hl=>by
 rw [List.append_nil] at hl ⊢
 exact .of_eq (h us hl)
def Passes (CX:CXT) (X:Cx) (E:XK):Prop:=∀(pins:List (Addr × Obj)) (σ:St) (H:Hp) (s:Shared) (e:Value) (s':Shared),Inv X pins σ H s→CX X.stack H s E e s'→X.xe e s'
section
variable {X:Cx} {CX:CXT} {k:Nat} {f C:Addr} {fd:FuncData} {ps:List Str} {sp:Sp} {dvs:List V} {ds:List Value} {E:XK} {x m:Str} {p pos apos:Pos} {e o:Expr} {es:List Expr} {ta:TE} {t:TA}
theorem run_fn {pins:List (Addr × Obj)} {σ:St} {H:Hp} {s:Shared} {Q:VK} {us:List Value} {vs:List V} (F:FnOk X.prog X.w X.K X.mg X.base CX k f fd ps sp) (hr:Room k X.A) (hb:Binds X.K fd ps ds) (hd:Vals dvs ds) (hx:Passes CX X E)
  (I:Inv X pins σ H s) (r:Vals vs us) (h:sp (vs ++ dvs) H Q E):wpAny (model X.prog X.w) X.A (call (.ref f) us) (EP X pins σ Q) X.xe s:=by
 have r2:Vals (vs ++ dvs) (us ++ ds):=r.append hd
 have hl:(us ++ ds).length=ps.length:=by rw [← r2.length]; exact F.len _ _ _ _ h
 refine wpAny_call (codeAny_mono (F.run X.A X.stack s H ⟨us,[]⟩ (us ++ ds) (vs ++ dvs) Q E hr I.env0 (hb s us I.kIn hl) r2 h) fun r s' hq=>?_)
 cases r with
 | error e=>exact hx pins σ H s e s' I hq
 | ok fl=>
  cases fl with
  | ret u=>exact I.after hq
  | next=>exact False.elim hq
  | brk=>exact False.elim hq
  | cont=>exact False.elim hq
theorem pe_call (F:FnOk X.prog X.w X.K X.mg X.base CX k f fd ps sp) (hr:Room k X.A) (hg:Gl X x) (hm:X.mg x=some (.ref f)) (hk:PySem.W.keepIn X.K (.ref f)=true) (hb:Binds X.K fd ps ds) (hd:Vals dvs ds) (hx:Passes CX X E)
  (ha:PA X (e :: es) t) (hdb:(x == ("__debug__" : Str))=false:=by decide) (he:starEach (e :: es) X.env=(false,eval e X.env) :: starEach es X.env:=by rfl) (hpl:(backTo pos (starEach es X.env)).any (·.1)=false:=by rfl) :
  PE X (.Call (.Name x p) (e :: es) [] pos) (tCall sp dvs E t):=by
 intro pins s σ H Q I h
 refine wpAny_Call_Name_kw (ld_glob I hg hm ?_ hdb)
 refine PySem.W.callWith_K (h₀:=X.base) I.ok.mod.kin hk (thn (ha pos pins s σ H _ I h) fun us s1 ⟨vs,H1,I1,r,q⟩=>⟨I1.kIn,?_⟩) he hpl
 exact run_fn F hr hb hd hx I1 r q
end
section
variable {X:Cx} {CX:CXT} {k:Nat} {f C:Addr} {fd:FuncData} {ps ks:List Str} {sp:Sp} {E:XK} {x m:Str} {p pos apos kpos:Pos} {e o:Expr} {es:List Expr} {kws:List Keyword} {te ta:TE} {t tk:TA} {nm:Option Str}
variable {g:List Value→List Value→List Value} {gV:List V→List V→List V}
end
structure FnScope (N P:List Str) (sc:Scope):Prop where
 kind:sc.kind = .function
 co:sc.isCoroutine=false
 gen:sc.isGenerator=false
 nd:N.Nodup
 pre:N.take P.length=P
 par:∀x∈P,sc.names.lookup x=some .local∨sc.names.lookup x=some .cell
 nofree:∀y∈sc.names,y.2≠.free
theorem bindL_out {kindOf:Str→Option NameKind} {x:Str}:∀{binds:List (Str × Value)} {m:Str→Option Value},(∀v,(x,v)∉binds)→bindL kindOf binds m x=m x
 | [],_,_=>rfl
 | (n,v) :: r,m,h=>by
  unfold bindL
  rw [bindL_out fun w hw=>h w (List.mem_cons_of_mem _ hw)]
  split
  ·have:x≠n:=by rintro rfl; exact h v List.mem_cons_self
   simp [this]
  ·rfl
theorem bindC_out {kindOf:Str→Option NameKind} {x:Str}:∀{binds:List (Str × Value)} {m:Str→Option Value},(∀v,(x,v)∉binds)→bindC kindOf binds m x=m x
 | [],_,_=>rfl
 | (n,v) :: r,m,h=>by
  unfold bindC
  rw [bindC_out fun w hw=>h w (List.mem_cons_of_mem _ hw)]
  split
  ·rfl
  ·have:x≠n:=by rintro rfl; exact h v List.mem_cons_self
   simp [this]
theorem bindL_get {kindOf:Str→Option NameKind} {x:Str} {v:Value}:∀{P:List Str} {vs:List Value} {i:Nat} {m:Str→Option Value},P.Nodup→P[i]? = some x→vs[i]? = some v→kindOf x=some .local→
  bindL kindOf (P.zip vs) m x=some v
 | [],_,_,_,_,h,_,_=>by simp at h
 | _ :: _,[],_,_,_,_,h,_=>by simp at h
 | p :: P,w :: vs,0,m,nd,h1,h2,hk=>by
  simp at h1 h2; subst h1; subst h2
  show bindL kindOf ((p,w) :: P.zip vs) m p=_
  unfold bindL
  rw [bindL_out fun v hv=>(List.nodup_cons.mp nd).1 (List.of_mem_zip hv).1,if_pos hk]
  simp
 | p :: P,w :: vs,i + 1,m,nd,h1,h2,hk=>by
  show bindL kindOf ((p,w) :: P.zip vs) m x=_
  unfold bindL
  exact bindL_get (i:=i) (List.nodup_cons.mp nd).2 (by simpa using h1) (by simpa using h2) hk
theorem bindC_get {kindOf:Str→Option NameKind} {x:Str} {v:Value}:∀{P:List Str} {vs:List Value} {i:Nat} {m:Str→Option Value},P.Nodup→P[i]? = some x→vs[i]? = some v→kindOf x≠some .local→
  bindC kindOf (P.zip vs) m x=some v
 | [],_,_,_,_,h,_,_=>by simp at h
 | _ :: _,[],_,_,_,_,h,_=>by simp at h
 | p :: P,w :: vs,0,m,nd,h1,h2,hk=>by
  simp at h1 h2; subst h1; subst h2
  show bindC kindOf ((p,w) :: P.zip vs) m p=_
  unfold bindC
  rw [bindC_out fun v hv=>(List.nodup_cons.mp nd).1 (List.of_mem_zip hv).1,if_neg hk]
  simp
 | p :: P,w :: vs,i + 1,m,nd,h1,h2,hk=>by
  show bindC kindOf ((p,w) :: P.zip vs) m x=_
  unfold bindC
  exact bindC_get (i:=i) (List.nodup_cons.mp nd).2 (by simpa using h1) (by simpa using h2) hk
def start (N:List Str) (vs:List V):St:=vs.map some ++ List.replicate (N.length - vs.length) none
def cxOf (CX:CXT) (P:Program) (w:World) (K:PySem.W.Frag) (mg:Str→Option Value) (base:Heap) (N:List Str) (qual:Str) (scope:Scope) (f:Addr) (cd:Value) (A:Around) (outer:List Env) (s:Shared) (H:Hp) (E:XK):Cx where
 prog:=P
 w:=w
 K:=K
 mg:=mg
 base:=base
 A:=A.deeper (envOfC qual scope s.heap.objs.size f cd)
 N:=N
 s₀:=s
 H₀:=H
 env:=envOfC qual scope s.heap.objs.size f cd
 outer:=outer
 stack:=envOfC qual scope s.heap.objs.size f cd :: outer
 ex:=[]
 calm:=true
 fn:=fun _=>true
 pn:=[]
 xe:=fun e s'=>wpAny (model P w) (A.deeper (envOfC qual scope s.heap.objs.size f cd)) (leaving (envOfC qual scope s.heap.objs.size f cd) e) (fun _ s''=>CX outer H s E e s'') (fun e' s''=>CX outer H s E e' s'') s'
theorem cell_has {sc:Scope} {n:Nat} {x:Str} (h:sc.names.lookup x=some .cell):∃c,(cellsFrom n sc.names []).lookup x=some c:=by
 have q:=PySem.W.cellsFrom_some sc.names n [] (.inl h)
 exact Option.isSome_iff_exists.mp q
theorem inv_start {CX:CXT} {P:Program} {w:World} {K:PySem.W.Frag} {mg:Str→Option Value} {base:Heap} {N ps:List Str} {qual:Str} {scope:Scope} {f:Addr} {cd:Value} {A:Around} {outer:List Env} {s s1:Shared} {H:Hp} {E:XK} {us:List Value} {vs:List V}
  (S:FnScope N ps scope) (hd:A.handled=none) (e0:Env0 P w K mg base A outer s H) (hl:vs.length=ps.length) (r:Vals vs us)
  (x:InCallC s s.heap.objs.size (bindL (envOfC qual scope s.heap.objs.size f cd).kindOf (ps.zip us) fun _=>none) (cellsFrom (s.heap.objs.size + 1) scope.names []) (bindC (envOfC qual scope s.heap.objs.size f cd).kindOf (ps.zip us) fun _=>none) s1) :
  Inv (cxOf CX P w K mg base N qual scope f cd A outer s H E) [] (start N vs) H s1:=by
 have hpl:ps.length≤N.length:=by have:=congrArg List.length S.pre; rw [List.length_take] at this; omega
 obtain ⟨h1,tk,rfl,hk⟩:=x.done
 have noA:∀b:Addr,b∉(cxOf CX P w K mg base N qual scope f cd A outer s H E).ex:=fun b z=>absurd (show b∈([]:List Addr) from z) (by simp)
 refine ⟨⟨e0.mod,S.kind,rfl,rfl,Nat.le_refl _,fun y z c h1 h2=>?_,fun y hy=>?_,fun y c _ h=>?_,fun _=>hd,Around.frames_deeper e0.frames,.inr ⟨rfl,rfl⟩,fun b z=>absurd z (noA b),e0.bs,e0.bsz,fun b _ _=>noA b,fun b z=>absurd z (noA b),e0.funs,e0.frf⟩,
  rfl,e0.bare,Un.kept hk,⟨_,x.toInCall.ns,fun i y v h1 h2 h3=>?_⟩,fun y c h=>⟨_,x.cell y c h⟩,e0.hok.fresh (Nat.le_refl _),fun y c h=>?_,fun p hp=>absurd (show p∈([]:List (Addr × Obj)) from hp) (by simp),e0.hok.kept hk,?_⟩
 ·exact name_of_addr x.apart (PySem.mem_of_lookup h1) (PySem.mem_of_lookup h2)
 ·have hy:scope.names.lookup y=some .cell∨scope.names.lookup y=some .free:=hy
  rcases hy with hy | hy
  ·exact cell_has hy
  ·exact absurd rfl (S.nofree _ (PySem.mem_of_lookup hy))
 ·exact Nat.le_of_lt (x.above y c (PySem.mem_of_lookup h))
 ·have hi:i < vs.length:=by
   unfold start at h2
   by_cases hi:i < vs.length
   ·exact hi
   ·rw [List.getElem?_append_right (by simpa using hi)] at h2
    rw [List.getElem?_replicate] at h2
    split at h2 <;> cases h2
  have ha:vs[i]? = some v:=by
   unfold start at h2
   rw [List.getElem?_append_left (by simpa using hi),List.getElem?_map] at h2
   cases e:vs[i]? with
   | none=>rw [e] at h2; cases h2
   | some a=>rw [e] at h2; cases h2; rfl
  obtain ⟨u,hu,rv⟩:=r.get ha
  have hp:ps[i]? = some y:=by
   rw [← S.pre,List.getElem?_take_of_lt (by omega)]; exact h1
  have ndP:ps.Nodup:=by rw [← S.pre]; exact S.nd.sublist (List.take_sublist _ _)
  refine ⟨u,rv,?_⟩
  rcases S.par y (List.mem_of_getElem? hp) with k | k
  ·exact .inl ⟨k,bindL_get ndP hp hu k⟩
  ·obtain ⟨c,e⟩:=cell_has (n:=s.heap.objs.size + 1) k
   refine .inr ⟨.inl k,c,e,?_⟩
   have q:=x.cell y c e
   rw [bindC_get ndP hp hu (by show scope.names.lookup y≠_; rw [k]; decide)] at q
   exact q
 ·exact e0.hok.fresh (Nat.le_of_lt (x.above y c (PySem.mem_of_lookup h)))
 ·unfold start
  show _=N.length
  rw [List.length_append,List.length_map,List.length_replicate]
  omega
theorem fn_of {CX:CXT} {P:Program} {w:World} {K:PySem.W.Frag} {mg:Str→Option Value} {base:Heap} {k:Nat} {f:Addr} {name qual:Str} {params:Arguments} {body:List Stmt} {scope:Scope} {dV kV doc pm cdv ct oc:Value} {an od:Option Addr}
  {osl:Array (Option Value)} {N ps:List Str} {sp:Sp} (lk:K.lookup f=some ⟨oc,od,.func (PySem.W.fnOf name qual params body scope dV kV doc pm an cdv ct),osl⟩) (hcd:PySem.W.codeIn K cdv qual=true) (S:FnScope N ps scope)
  (len:∀vs H Q E,sp vs H Q E→vs.length=ps.length)
  (hbody:∀(A:Around) (outer:List Env) (s:Shared) (H:Hp) (vs:List V) (Q:VK) (E:XK),Room k (A.deeper (envOfC qual scope s.heap.objs.size f cdv))→sp vs H Q E→
   ∃t,PSs (cxOf CX P w K mg base N qual scope f cdv A outer s H E) body t∧t {nx:=fun _ H'=>Q .non H',rt:=Q} (start N vs) H) :
  FnOk P w K mg base CX (k + 1) f (PySem.W.fnOf name qual params body scope dV kV doc pm an cdv ct) ps sp:=by
 refine ⟨len,fun A outer s H args us vs Q E hr e0 hb r hsp=>?_⟩
 have hl:=len _ _ _ _ hsp
 have KX:K.In s.heap:=e0.mod.kin.keeps fun b o e=>(e0.bs b o e).1
 have lim:s.heap.NoLimit:=e0.mod.nolimit.keeps fun b o e=>(e0.bs b o e).1
 have hkind:∀y∈ps.zip us,scope.names.lookup y.1=some .local∨(scope.names.lookup y.1=some .cell∧((cellsFrom (s.heap.objs.size + 1) scope.names []).lookup y.1).isSome=true):=fun ⟨n,v⟩ hy=>by
  rcases S.par n (List.of_mem_zip hy).1 with q | q
  ·exact .inl q
  ·exact .inr ⟨q,PySem.W.cellsFrom_some _ _ _ (.inl q)⟩
 refine codeAny_call_function hr.depth (KX _ _ lk) rfl S.co S.gen rfl (PySem.W.codeRec_of KX hcd) (hb _ _ _ _ ?_)
 refine wpAny_newFunctionEnv_cells S.kind hkind fun env he s1 x=>?_
 subst he
 refine ⟨lim.keeps x.toInCall.keep,codeAny_func ?_⟩
 obtain ⟨t,ht,hq⟩:=hbody A outer s H vs Q E (hr.deeper _) hsp
 have I:Inv (cxOf CX P w K mg base N qual scope f cdv A outer s H E) [] (start N vs) H s1:=inv_start S hr.hd e0 hl r x
 refine wpAny_mono (ht [] s1 (start N vs) H _ I hq) (fun fl s' hs=>?_) fun e s' hs=>hs
 have fin:∀{σ':St} {H':Hp} {v:V} {u:Value},Inv (cxOf CX P w K mg base N qual scope f cdv A outer s H E) [] σ' H' s'→RelV v u→Q v H'→CE outer P w H s Q u s':=
  fun {σ' H' v u} J rv q=>⟨v,H',J.os,J.bare,J.base,J.hok,rv,q⟩
 cases fl with
 | ret u=>
  obtain ⟨v,σ',H',J,rv,q⟩:=hs
  exact fin J rv q
 | next=>
  obtain ⟨σ',H',J,q⟩:=hs
  exact fin (v:=V.non) (u:=Value.none) J rfl q
 | brk=>
  obtain ⟨_,_,_,q⟩:=hs
  exact False.elim q
 | cont=>
  obtain ⟨_,_,_,q⟩:=hs
  exact False.elim q
section
variable {X:Cx} {x:Str} {p pos:Pos} {e:Expr} {es:List Expr} {t:TA} {id T:String} {r:List V→Hp→VK→Prop}
def tCB (r:List V→Hp→VK→Prop) (t:TA):TE:=fun σ H Q=>t σ H fun vs H1=>r vs H1 Q
theorem pe_callB (hc:CallR X (.builtin id) r) (hg:Gl X x) (hm:X.mg x=none) (hv:bootBuiltins x=some (.builtin id)) (ha:PA X (e :: es) t) (hn:x≠"__name__":=by decide) (hdb:(x == ("__debug__" : Str))=false:=by decide)
  (he:starEach (e :: es) X.env=(false,eval e X.env) :: starEach es X.env:=by rfl) (hpl:(backTo pos (starEach es X.env)).any (·.1)=false:=by rfl):PE X (.Call (.Name x p) (e :: es) [] pos) (tCB r t):=by
 intro pins s σ H Q I h
 refine wpAny_Call_Name_kw (ld_blt I hg hm hv ?_ hn hdb)
 exact PyProof.Rows.callWith_builtin1 (thn (ha pos pins s σ H _ I h) fun us s1 ⟨vs,H1,I1,r1,q1⟩=>hc pins s1 σ H1 vs us Q I1 r1 q1) he hpl
theorem pe_callTy (hc:CallR X (.type T) r) (hg:Gl X x) (hm:X.mg x=none) (hv:bootBuiltins x=some (.type T)) (ha:PA X (e :: es) t) (hn:x≠"__name__":=by decide) (hdb:(x == ("__debug__" : Str))=false:=by decide)
  (he:starEach (e :: es) X.env=(false,eval e X.env) :: starEach es X.env:=by rfl) (hpl:(backTo pos (starEach es X.env)).any (·.1)=false:=by rfl):PE X (.Call (.Name x p) (e :: es) [] pos) (tCB r t):=by
 intro pins s σ H Q I h
 refine wpAny_Call_Name_kw (ld_blt I hg hm hv ?_ hn hdb)
 exact PyProof.Rows.callWith_type1 (thn (ha pos pins s σ H _ I h) fun us s1 ⟨vs,H1,I1,r1,q1⟩=>hc pins s1 σ H1 vs us Q I1 r1 q1) he hpl
theorem pe_callTy0 (hc:CallR X (.type T) r) (hg:Gl X x) (hm:X.mg x=none) (hv:bootBuiltins x=some (.type T)) (hn:x≠"__name__":=by decide) (hdb:(x == ("__debug__" : Str))=false:=by decide) :
  PE X (.Call (.Name x p) [] [] pos) (tCB r tNil):=by
 intro pins s σ H Q I h
 refine wpAny_Call_Name_kw (ld_blt I hg hm hv ?_ hn hdb)
 exact PyProof.Rows.callWith_type0 (hc pins s σ H [] [] Q I .nil h)
end
end L2
namespace HT
open PySem PyProof.Rows
section
open PySem.SeqAt
open PySem.AutoSeq1 (wpAny_loadPart')
open PySem.MeetsSeq PySem.MeetsSeq2 PySem.MeetsSeq3
end
section
variable {prog:Program} {w:World} {A:Around} {E:Value→Shared→Prop} {s:Shared}
theorem cat_tup {t b:Addr} {vs ws:List Value} {Q:Value→Shared→Prop} (ht:IsTup s.heap t vs.toArray) (hb:IsTup s.heap b ws.toArray) (hv:vs≠[])
  (h1:ws=[]→Q (.ref t) s) (h2:ws≠[]→Q (.ref s.heap.objs.size) {s with heap:=s.heap.push {cls:=.type "tuple",data:=.seq (vs ++ ws).toArray}})
  (hsz:vs.length + ws.length≤sizeLine):wpAny (model prog w) A (binaryOp .Add (.ref t) (.ref b)) Q E s:=by
 obtain ⟨⟨cls,dd,data,sl⟩,ho,hc,n,hd⟩:=id ht
 obtain ⟨⟨cls2,dd2,data2,sl2⟩,ho2,hc2,n2,hd2⟩:=id hb
 simp only at hc hd hc2 hd2
 subst hc hd hc2 hd2
 have e:vs.toArray ++ ws.toArray=(vs ++ ws).toArray:=by simp
 by_cases hw:ws=[]
 ·exact concat_meets ⟨_,ho,rfl⟩ ⟨_,ho2,rfl⟩ noFill_tuple_add seq_tuple_add PySem.F.slot_tuple_add PySem.F.entry_tuple_add (PySem.F.args_tuple_add_2 _ _)
   (tuple_addW1 t b vs.toArray ws.toArray n n2 dd dd2 sl sl2 (by simpa using hv) (by simp [hw])) ⟨ho,ho2,h1 hw⟩
 ·refine concat_meets ⟨_,ho,rfl⟩ ⟨_,ho2,rfl⟩ noFill_tuple_add seq_tuple_add PySem.F.slot_tuple_add PySem.F.entry_tuple_add (PySem.F.args_tuple_add_2 _ _)
   (tuple_addW2 t b vs.toArray ws.toArray n n2 dd dd2 sl sl2 (by simpa using hv) (by simpa using hw) (by rw [List.size_toArray,List.size_toArray]; exact hsz)) ⟨ho,ho2,?_⟩
  rw [e]
  exact h2 hw
def sIx (n d:Nat):Option Int→Nat
 | none=>d
 | some v=>if v < 0 then (v + (n:Int)).toNat else min v.toNat n
theorem sIx_none (n d:Nat):sIx n d none=d:=rfl
theorem sIx_nat (n d k:Nat):sIx n d (some (k:Int))=min k n:=by
 show (if (k:Int) < 0 then ((k:Int) + (n:Int)).toNat else min (k:Int).toNat n)=min k n
 rw [if_neg (by omega),Int.toNat_natCast]
theorem sIx_le (n d:Nat) (hd:d≤n) (o:Option Int):sIx n d o≤n:=by
 cases o with
 | none=>exact hd
 | some v=>
  show (if v < 0 then (v + (n:Int)).toNat else min v.toNat n)≤n
  by_cases hv:v < 0
  ·rw [if_pos hv]; omega
  ·rw [if_neg hv]; exact Nat.min_le_right _ _
theorem clip_eq (v:Int) (n d:Nat):(if v < 0 then max (v + (n:Int)) 0 else min v (n:Int))=((sIx n d (some v):Nat):Int):=by
 show (if v < 0 then max (v + (n:Int)) 0 else min v (n:Int))=(((if v < 0 then (v + (n:Int)).toNat else min v.toNat n):Nat):Int)
 by_cases hv:v < 0
 ·simp only [if_pos hv]; omega
 ·simp only [if_neg hv]; omega
theorem adjust_gen (lo hi:Option Int) (n:Nat):Builtin.Slice.sliceAdjust lo hi 1 (n:Int)=(((sIx n 0 lo:Nat):Int),((sIx n n hi:Nat):Int)):=by
 have h1:¬((1:Int) < 0):=by omega
 unfold Builtin.Slice.sliceAdjust
 simp only [h1,if_false]
 refine Prod.ext ?_ ?_
 ·cases lo with
  | none=>rfl
  | some v=>exact clip_eq v n 0
 ·cases hi with
  | none=>rfl
  | some v=>exact clip_eq v n n
theorem places_gen (i j:Nat):Builtin.Slice.slicePlaces (i:Int) (j:Int) 1=j - i:=by
 unfold Builtin.Slice.slicePlaces
 have h1:(1:Int) > 0:=by omega
 simp only [h1,if_true,Int.ediv_one]
 split <;> omega
theorem slicePart_ {v:Value} {o:Option Int} {Q:Option Int→Shared→Prop} (p:IsPart v o) (h:Q o s):wpAny (model prog w) A (Builtin.Slice.slicePartIndex v) Q E s:=by
 cases p with
 | none=>exact slicePart_none h
 | int i t=>exact slicePart_int h
theorem sliceApplied_gen {sl:Addr} {vl vu:Value} {lo hi:Option Int} {n:Nat} {Q:Int × Int × Nat→Shared→Prop} (hs:s.heap.IsSliceOf sl vl vu .none) (pl:IsPart vl lo) (pu:IsPart vu hi)
  (h:Q (((sIx n 0 lo:Nat):Int),1,sIx n n hi - sIx n 0 lo) s):wpAny (model prog w) A (Builtin.Slice.sliceApplied (.ref sl) (pure (n:Int))) Q E s:=by
 obtain ⟨os,hos,hcs,hds⟩:=id hs
 unfold Builtin.Slice.sliceApplied Builtin.Slice.sliceFields
 refine wpAny_bind (wpAny_bind (wpAny_field hos hds (x:=vl) rfl (wpAny_bind (wpAny_field hos hds (x:=vu) rfl (wpAny_bind (wpAny_field hos hds (x:=.none) rfl (wpAny_pure ?_)))))))
 refine wpAny_bind (slicePart_none ?_)
 show wpAny _ _ (if ((1:Int) == 0)=true then _ else _) _ _ s
 rw [if_neg (by decide)]
 refine wpAny_bind (slicePart_ pl (wpAny_bind (slicePart_ pu (wpAny_bind (wpAny_pure ?_)))))
 show wpAny _ _ (match Builtin.Slice.sliceAdjust lo hi 1 (n:Int) with | (lo,hi)=>pure (lo,(1:Int),Builtin.Slice.slicePlaces lo hi 1)) _ _ s
 rw [adjust_gen lo hi n]
 show wpAny _ _ (pure (((sIx n 0 lo:Nat):Int),(1:Int),Builtin.Slice.slicePlaces ((sIx n 0 lo:Nat):Int) ((sIx n n hi:Nat):Int) 1)) _ _ s
 rw [places_gen]
 exact wpAny_pure h
theorem pick_gen (xs:Array Value) (i k:Nat):((List.range k).filterMap fun (m:Nat)=>xs[((i:Int) + (m:Int) * 1).toNat]?).toArray=((xs.toList.drop i).take k).toArray:=by
 have e:(fun (m:Nat)=>xs[((i:Int) + (m:Int) * 1).toNat]?)=fun m=>xs[i + m]?:=by
  funext m
  have:((i:Int) + (m:Int) * 1).toNat=i + m:=by omega
  rw [this]
 rw [e]
 have:=pick_run xs i k
 rw [List.filterMap_map] at this
 have e2:((fun x=>xs[x]?) ∘ fun x=>i + x)=fun m=>xs[i + m]?:=rfl
 rw [e2] at this
 rw [this]
theorem getItem_tuple_cut {t sl:Addr} {items:Array Value} {vl vu:Value} {lo hi:Option Int} {Q:Value→Shared→Prop} (ht:IsTup s.heap t items) (hs:s.heap.IsSliceOf sl vl vu .none) (pl:IsPart vl lo) (pu:IsPart vu hi)
  (hw:¬(sIx items.size 0 lo=0∧sIx items.size items.size hi=items.size))
  (h:Q (.ref s.heap.objs.size) {s with heap:=s.heap.push {cls:=.type "tuple",data:=.seq ((items.toList.drop (sIx items.size 0 lo)).take (sIx items.size items.size hi - sIx items.size 0 lo)).toArray}})
  (hsz:items.size≤sizeLine):wpAny (model prog w) A (getItem (.ref t) (.ref sl)) Q E s:=by
 have htake:sizeOk (.seq ((items.toList.drop (sIx items.size 0 lo)).take (sIx items.size items.size hi - sIx items.size 0 lo)).toArray):=by
  show ((items.toList.drop (sIx items.size 0 lo)).take (sIx items.size items.size hi - sIx items.size 0 lo)).toArray.size≤sizeLine
  rw [List.size_toArray,List.length_take,List.length_drop,Array.length_toList]
  omega
 have hj:sIx items.size items.size hi≤items.size:=sIx_le _ _ (Nat.le_refl _) hi
 obtain ⟨os,hos,hcs,hds⟩:=id hs
 have hTs:s.TypeIs (.ref sl) "slice":=⟨os,hos,hcs⟩
 unfold getItem
 try with_reducible refine wpAny_holding ?_
 first | refine wpAny_bind (wpAny_pure ?_) | skip
 refine wpAny_bind (wpAny_sequenceKey ht.typeIs (by decide) ?_)
 refine wpAny_bind (wpAny_callSpecial?_slot (name:=Str.ofString "__getitem__") ht.typeIs PyProof.Rows.slot_tuple_getitem
  (wpAny_call_entry PyProof.Rows.slot_tuple_getitem ht.typeIs entry_tuple_getitem ?_ (args_tuple_getitem _ _)))
 show wpAny _ _ (Builtin.Tuple.tupleItemsOf (.ref t) >>= _) _ _ s
 refine wpAny_bind (tupleItemsOf_ ht ?_)
 refine wpAny_bind (wpAny_typeOf hTs ?_)
 rw [if_pos (by decide)]
 refine wpAny_bind (sliceApplied_gen hs pl pu ?_)
 have hno:¬((((sIx items.size 0 lo:Nat):Int) == 0 && (1:Int) == 1 && (sIx items.size items.size hi - sIx items.size 0 lo) == items.size)=true):=by
  intro q
  rw [Bool.and_eq_true,Bool.and_eq_true] at q
  have q1:((sIx items.size 0 lo:Nat):Int)=0:=eq_of_beq q.1.1
  have q2:sIx items.size items.size hi - sIx items.size 0 lo=items.size:=eq_of_beq q.2
  exact hw ⟨by omega,by omega⟩
 show wpAny _ _ (if (((sIx items.size 0 lo:Nat):Int) == 0 && (1:Int) == 1 && (sIx items.size items.size hi - sIx items.size 0 lo) == items.size)=true then _ else _) _ _ s
 rw [if_neg hno,pick_gen]
 first
  | exact wpAny_bind (m:=Builtin.Tuple.tupleExact _) (wpAny_newObj_type (wpAny_pure ⟨_,rfl,wpAny_pure h⟩) htake)
  | exact wpAny_bind (m:=Builtin.Tuple.tupleExact _) (wpAny_newObj_type (wpAny_bind (wpAny_pure (wpAny_pure ⟨_,rfl,wpAny_pure h⟩))) htake)
  | exact wpAny_bind (wpAny_bind (m:=Builtin.Tuple.tupleExact _) (wpAny_newObj_type (wpAny_pure (wpAny_pure ⟨_,rfl,wpAny_pure h⟩)) htake))
  | exact wpAny_bind (wpAny_bind (m:=Builtin.Tuple.tupleExact _) (wpAny_newObj_type (wpAny_pure ⟨_,rfl,wpAny_pure h⟩) htake))
end
end HT
namespace L2
open PySem PySem.Spec PyProof.Rows
abbrev TO:=St→Hp→(Option Int→Hp→Prop)→Prop
def PO (X:Cx) (e:Option Expr) (t:TO):Prop:=
 ∀(pins:List (Addr × Obj)) (s:Shared) (σ:St) (H:Hp) (Q:Option Int→Hp→Prop),Inv X pins σ H s→t σ H Q→
  wpAny (model X.prog X.w) X.A (evalPart e X.env) (fun u s'=>∃o H',Inv X pins σ H' s'∧IsPart u o∧Q o H') X.xe s
def tNoPart:TO:=fun _ H Q=>Q none H
def tPart (t:TE):TO:=fun σ H Q=>t σ H fun x H1=>∃i,x = .int i∧Q (some i) H1
section
variable {X:Cx} {e:Expr} {te:TE} {lo hi:Option Expr} {tl th:TO} {pos p2:Pos}
theorem po_none:PO X none tNoPart:=by
 intro pins s σ H Q I h
 rw [evalPart_none]
 exact wpAny_pure ⟨none,H,I,.none,h⟩
theorem po_some (h:PE X e te):PO X (some e) (tPart te):=by
 intro pins s σ H Q I hw
 rw [evalPart_some]
 refine thn (h pins s σ H _ I hw) fun u s1 ⟨x,H1,I1,r1,q1⟩=>?_
 obtain ⟨i,rfl,q⟩:=q1
 obtain ⟨t,rfl⟩:=r1
 exact ⟨some i,H1,I1,.int i t,q⟩
def SlR (X:Cx) (r:V→Option Int→Option Int→Hp→VK→Prop):Prop:=
 ∀(pins:List (Addr × Obj)) (s:Shared) (σ:St) (H:Hp) (x:V) (v vl vu:Value) (lo hi:Option Int) (sl:Addr) (Q:VK),Inv X pins σ H s→RelV x v→s.heap.IsSliceOf sl vl vu .none→IsPart vl lo→IsPart vu hi→r x lo hi H Q→
  ∃T id,typeLookup (.type T) "__getitem__" = pure (some (.builtin id))∧s.TypeIs v T∧wpAny (model X.prog X.w) X.A (getItem v (.ref sl)) (EP X pins σ Q) X.xe s
def tSl (r:V→Option Int→Option Int→Hp→VK→Prop) (te:TE) (tl th:TO):TE:=fun σ H Q=>te σ H fun x H1=>tl σ H1 fun l H2=>th σ H2 fun u H3=>r x l u H3 Q
theorem pe_slice {r:V→Option Int→Option Int→Hp→VK→Prop} (hr:SlR X r) (he:PE X e te) (hl:PO X lo tl) (hu:PO X hi th):PE X (.Subscript e (.Slice lo hi none p2) pos) (tSl r te tl th):=by
 intro pins s σ H Q I h
 refine Subscript_ (thn (he pins s σ H _ I h) fun v s1 ⟨x,H1,I1,r1,q1⟩=>?_)
 refine wpAny_Slice (thn (hl pins s1 σ H1 _ I1 q1) fun vl s2 ⟨l,H2,I2,pl,q2⟩=>thn (hu pins s2 σ H2 _ I2 q2) fun vu s3 ⟨u,H3,I3,pu,q3⟩=>?_)
 rw [evalPart_none]
 refine wpAny_pure ?_
 have I4:Inv X pins σ H3 {s3 with heap:=s3.heap.push {cls:=.type "slice",data:=.fields #[vl,vu,.none]}}:=I3.kept (t':=s3.toks) fun b ob q=>Heap.get?_push_of_some _ q
 obtain ⟨T,id,hT,ht,hg⟩:=hr pins {s3 with heap:=s3.heap.push {cls:=.type "slice",data:=.fields #[vl,vu,.none]}} σ H3 x v vl vu l u s3.heap.objs.size Q I4 r1 (Heap.IsSliceOf.new ..) pl pu q3
 show wpAny (model X.prog X.w) X.A (subscriptTail e (.Slice lo hi none p2) v (.ref s3.heap.objs.size)) (EP X pins σ Q) X.xe {s3 with heap:=s3.heap.push {cls:=.type "slice",data:=.fields #[vl,vu,.none]}}
 exact tail_any (ops:=[.ref s3.heap.objs.size,v]) ht hT hg (by with_unfolding_all rfl)
def cutV (xs:List V) (lo hi:Option Int):List V:=(xs.drop (HT.sIx xs.length 0 lo)).take (HT.sIx xs.length xs.length hi - HT.sIx xs.length 0 lo)
theorem cutV_length (xs:List V) (lo hi:Option Int):(cutV xs lo hi).length≤xs.length:=by
 unfold cutV
 rw [List.length_take,List.length_drop]
 omega
def rSlT (K:PySem.W.Frag):V→Option Int→Option Int→Hp→VK→Prop:=fun x lo hi H Q=>∃a xs,x = .ref a∧SqT K H a xs∧
 ¬(HT.sIx xs.length 0 lo=0∧HT.sIx xs.length xs.length hi=xs.length)∧∀p,H p=none→Q (.ref p) (upd H p (.tup (cutV xs lo hi)))
theorem sl_tup:SlR X (rSlT X.K):=by
 intro pins s σ H x v vl vu lo hi sl Q I rx hs pl pu h
 obtain ⟨a,xs,rfl,hx,hw,q⟩:=h
 cases rx
 obtain ⟨its,r,ht,hz⟩:=I.tuple hx
 have hlen:its.toArray.size=xs.length:=by rw [List.size_toArray]; exact r.length.symm
 refine ⟨"tuple",_,PyProof.Rows.slot_tuple_getitem.lookup,ht.typeIs,?_⟩
 refine HT.getItem_tuple_cut ht hs pl pu (by rw [hlen]; exact hw) ?_ (by rw [hlen]; exact hz)
 rw [hlen]
 refine ⟨.ref s.heap.objs.size,_,I.laid (t':=s.toks) (o:=.tup (cutV xs lo hi)) (fun b ob q=>Heap.get?_push_of_some _ q) (Nat.le_refl _) ?_,rfl,q _ (I.hok.fresh (Nat.le_refl _))⟩
 exact ⟨Nat.le_trans (cutV_length xs lo hi) hz,_,(r.drop (HT.sIx xs.length 0 lo)).take (HT.sIx xs.length xs.length hi - HT.sIx xs.length 0 lo),IsTup.new _ _⟩
def rCatT (K:PySem.W.Frag):R2:=fun x y H Q=>∃a b xs ys,x = .ref a∧y = .ref b∧SqT K H a xs∧SqT K H b ys∧xs≠[]∧xs.length + ys.length≤sizeLine∧
 (ys=[]→Q (.ref a) H)∧(ys≠[]→∀p,H p=none→Q (.ref p) (upd H p (.tup (xs ++ ys))))
theorem Vals.nil_iff {xs:List V} {us:List Value} (r:Vals xs us):us=[]↔xs=[]:=by
 cases r with
 | nil=>simp
 | cons _ _=>simp
theorem op_catT:OpR X (binaryOp .Add) (rCatT X.K):=by
 intro pins s σ H x y v u Q I rx ry h
 obtain ⟨a,b,xs,ys,rfl,rfl,ha,hb,hx,hz,q1,q2⟩:=h
 cases rx
 cases ry
 obtain ⟨its,r1,p1,_⟩:=I.tuple ha
 obtain ⟨its2,r2,p2,_⟩:=I.tuple hb
 refine HT.cat_tup p1 p2 (fun z=>hx (r1.nil_iff.mp z)) (fun z=>⟨.ref a,H,I,rfl,q1 (r2.nil_iff.mp z)⟩) (fun z=>?_) (by rw [← r1.length,← r2.length]; exact hz)
 refine ⟨.ref s.heap.objs.size,_,I.laid (t':=s.toks) (o:=.tup (xs ++ ys)) (fun b ob q=>Heap.get?_push_of_some _ q) (Nat.le_refl _) ?_,rfl,q2 (fun w=>z (r2.nil_iff.mpr w)) _ (I.hok.fresh (Nat.le_refl _))⟩
 exact ⟨by rw [List.length_append]; exact hz,_,r1.append r2,IsTup.new _ _⟩
end
def ixN (n:Nat) (i:Int):Option Nat:=if 0≤i then (if i < n then some i.toNat else none) else if -(n:Int)≤i then some (i + n).toNat else none
def atI {α:Type} (xs:List α) (i:Int):Option α:=(ixN xs.length i).bind fun j=>xs[j]?
theorem ixN_seq {n:Nat} {i:Int} {j:Nat} (h:ixN n i=some j):seqIndex? i n=some j∧j < n∧-(n:Int)≤i∧i < n:=by
 unfold ixN at h
 by_cases h0:0≤i
 ·rw [if_pos h0] at h
  by_cases h1:i < n
  ·rw [if_pos h1] at h
   have e:i.toNat=j:=Option.some.inj h
   exact ⟨by rw [seqIndex_of h0 h1,e],by omega,by omega,h1⟩
  ·rw [if_neg h1] at h; cases h
 ·rw [if_neg h0] at h
  by_cases h1:-(n:Int)≤i
  ·rw [if_pos h1] at h
   have e:(i + n).toNat=j:=Option.some.inj h
   exact ⟨by rw [seqIndex_neg (by omega) h1,e],by omega,h1,by omega⟩
  ·rw [if_neg h1] at h; cases h
theorem atI_get {α:Type} {xs:List α} {i:Int} {v:α} (h:atI xs i=some v):∃j,seqIndex? i xs.length=some j∧xs[j]? = some v∧j < xs.length∧-(xs.length:Int)≤i∧i < xs.length:=by
 unfold atI at h
 cases e:ixN xs.length i with
 | none=>rw [e] at h; cases h
 | some j=>
  rw [e] at h
  obtain ⟨h1,h2,h3,h4⟩:=ixN_seq e
  exact ⟨j,h1,h,h2,h3,h4⟩
theorem atI_nat {α:Type} {xs:List α} {j:Nat} {v:α} (h:xs[j]? = some v):atI xs (j:Int)=some v:=by
 have hj:j < xs.length:=(List.getElem?_eq_some_iff.mp h).1
 have e:ixN xs.length (j:Int)=some j:=by
  unfold ixN
  rw [if_pos (by omega),if_pos (by omega)]; simp
 unfold atI; rw [e]; exact h
def PlainIx (b:Expr):Prop:=∀o i,subscripted b false o i=operate [o,i] (getItem o i)
def IxR (X:Cx) (r:R2):Prop:=
 ∀(value slice:Expr) (pins:List (Addr × Obj)) (s:Shared) (σ:St) (H:Hp) (x y:V) (v u:Value) (Q:VK),Inv X pins σ H s→RelV x v→RelV y u→r x y H Q→
  subscripted slice false v u=operate [v,u] (getItem v u)→wpAny (model X.prog X.w) X.A (subscriptTail value slice v u) (EP X pins σ Q) X.xe s
def MtR (X:Cx) (id:String) (r:V→List V→Hp→VK→Prop):Prop:=
 ∀(pins:List (Addr × Obj)) (s:Shared) (σ:St) (H:Hp) (x:V) (xs:List V) (v:Value) (us:List Value) (Q:VK),Inv X pins σ H s→RelV x v→Vals xs us→r x xs H Q→
  wpAny (model X.prog X.w) X.A (call (.builtin id) (v :: us)) (EP X pins σ Q) X.xe s
section
variable {X:Cx} {a b:Expr} {ta tb:TE} {pos:Pos}
theorem pe_ix {r:R2} (hr:IxR X r) (ha:PE X a ta) (hb:PE X b tb) (hs:PlainIx b):PE X (.Subscript a b pos) (tOp r ta tb):=by
 intro pins s σ H Q I h
 exact Subscript_ (binT ha hb I h fun v u s2 x y H2 I2 rx ry q=>hr a b pins s2 σ H2 x y v u Q I2 rx ry q (hs _ _))
def rIxL (K:PySem.W.Frag):R2:=fun x y H Q=>∃p xs i v,x = .ref p∧y = .int i∧SqL K H p xs∧atI xs i=some v∧Q v H
def rIxT (K:PySem.W.Frag):R2:=fun x y H Q=>∃p xs i v,x = .ref p∧y = .int i∧SqT K H p xs∧atI xs i=some v∧Q v H
def rIxS:R2:=fun x y H Q=>∃z i c,x = .str z∧y = .int i∧z.length≤sizeLine∧atI z.cps.toList i=some c∧Q (.str ⟨#[c]⟩) H
theorem ix_list:IxR X (rIxL X.K):=by
 intro value slice pins s σ H x y v u Q I rx ry h hs
 obtain ⟨p,xs,i,z,rfl,rfl,hq,he,q⟩:=h
 cases rx
 obtain ⟨t,rfl⟩:=ry
 obtain ⟨its,r,pl,hz⟩:=I.list hq
 obtain ⟨j,h1,h2,h3,h4,h5⟩:=atI_get he
 obtain ⟨w,ew,rw'⟩:=r.get h2
 have hl:=r.length
 have hn:=line63
 have fin:EP X pins σ Q w s:=⟨z,H,I,rw',q⟩
 by_cases h0:0≤i
 ·have hj:i.toNat=j:=by
   rw [seqIndex_of h0 h5] at h1
   exact Option.some.inj h1
  exact item_listR pl.isList h0 (by omega) (by rw [hj]; simpa using ew) fin hs
 ·have hj:(i + (its.toArray.size:Int)).toNat=j:=by
   rw [seqIndex_neg (by omega) h4] at h1
   rw [List.size_toArray,← hl]
   exact Option.some.inj h1
  exact subscriptTail_builtinR (x:=w) pl.isList.typeIs slot_list_getitem.lookup
   (wpAny_getItem_list_neg (Q:=fun r s'=>r=w∧EP X pins σ Q r s') pl.isList (by omega) (by rw [List.size_toArray] <;> omega) (by omega) (by rw [hj]; simpa using ew) ⟨rfl,fin⟩) hs
theorem ix_tup:IxR X (rIxT X.K):=by
 intro value slice pins s σ H x y v u Q I rx ry h hs
 obtain ⟨p,xs,i,z,rfl,rfl,hq,he,q⟩:=h
 cases rx
 obtain ⟨t,rfl⟩:=ry
 obtain ⟨its,r,pl,hz⟩:=I.tuple hq
 obtain ⟨j,h1,h2,h3,h4,h5⟩:=atI_get he
 obtain ⟨w,ew,rw'⟩:=r.get h2
 have hl:=r.length
 have hn:=line63
 have fin:EP X pins σ Q w s:=⟨z,H,I,rw',q⟩
 exact subscriptTail_builtinR (x:=w) pl.typeIs slot_tuple_getitem.lookup
  (getItem_tuple (j:=j) (Q:=fun r s'=>r=w∧EP X pins σ Q r s') pl (by omega) (by omega) (by rw [List.size_toArray,← hl]; exact h1) (by simpa using ew) ⟨rfl,fin⟩) hs
theorem ix_str:IxR X rIxS:=by
 intro value slice pins s σ H x y v u Q I rx ry h hs
 obtain ⟨z,i,c,rfl,rfl,hz,he,q⟩:=h
 obtain ⟨t,rfl⟩:=rx
 obtain ⟨t',rfl⟩:=ry
 obtain ⟨j,h1,h2,h3,h4,h5⟩:=atI_get he
 have hl:z.cps.toList.length=z.length:=by simp [Str.length]
 rw [hl] at h1 h4 h5
 have hn:=line63
 exact tail_any (typeIs_str s z t) slot_str_getitem.lookup (getItem_str (c:=c) (by
  have e1:decide (i < -(2 ^ 63:Int))=false:=decide_eq_false (by omega)
  have e2:decide (i ≥ 2 ^ 63)=false:=decide_eq_false (by omega)
  rw [e1,e2,Bool.or_false]) (by rw [h1]; simpa using h2) ⟨.str ⟨#[c]⟩,H,I.tok _,⟨_,rfl⟩,q⟩) hs
theorem mapSeq_set (its:List Value) (n j:Nat) (u:Value):Obj.mapSeq (·.setIfInBounds j u) {cls:=.type "list",data:=.seq its.toArray n} = {cls:=.type "list",data:=.seq (its.set j u).toArray n}:=by
 simp [Obj.mapSeq]
theorem Inv.lst {pins:List (Addr × Obj)} {σ:St} {H:Hp} {s:Shared} {p:Addr} {xs:List V} (I:Inv X pins σ H s) (h:H p=some (.lst xs)) :
  ∃(its:List Value) (n:Nat),Vals xs its∧s.heap.get? p=some {cls:=.type "list",data:=.seq its.toArray n}∧xs.length≤sizeLine:=by
 obtain ⟨z,its,n,r,e⟩:=I.hok p _ h
 exact ⟨its,n,r,e,z⟩
theorem Inv.lstUpd {pins:List (Addr × Obj)} {σ:St} {H:Hp} {s:Shared} {p:Addr} {xs ys:List V} {its its':List Value} {n n':Nat} {f:Obj→Obj} (I:Inv X pins σ H s) (h:H p=some (.lst xs))
  (ho:s.heap.get? p=some {cls:=.type "list",data:=.seq its.toArray n}) (hf:f {cls:=.type "list",data:=.seq its.toArray n} = {cls:=.type "list",data:=.seq its'.toArray n'}) (r:Vals ys its') (hz:ys.length≤sizeLine) (t:Nat) :
  Inv X pins σ (upd H p (.lst ys)) {s with heap:=s.heap.update p f,toks:=t}:=by
 have e:(s.heap.update p f).get? p=some {cls:=.type "list",data:=.seq its'.toArray n'}:=by
  rw [Heap.get?_update_self f ho (by rw [hf] <;> rfl),hf]
 refine I.write (x:=p) (e:=p) (by rw [h]; trivial) (.inl rfl) (fun b u hb q=>(Heap.get?_update_other _ _ (Ne.symm hb)).trans q) ⟨_,e⟩ ?_
 exact ⟨hz,its',n',r,e⟩
def rSetL:V→V→V→Hp→(Hp→Prop)→Prop:=fun o i v H Q=>∃p xs k j,o = .ref p∧i = .int k∧H p=some (.lst xs)∧ixN xs.length k=some j∧Q (upd H p (.lst (xs.set j v)))
theorem set_list:PSet X rSetL:=by
 intro pins s σ H o i v ov iv u Q I ro ri rv h
 obtain ⟨p,xs,k,j,rfl,rfl,hp,hj,q⟩:=h
 cases ro
 obtain ⟨t,rfl⟩:=ri
 obtain ⟨its,n,r,ho,hz⟩:=I.lst hp
 obtain ⟨h1,h2,h3,h4⟩:=ixN_seq hj
 have hl:=r.length
 have hn:=line63
 have I':Inv X pins σ (upd H p (.lst (xs.set j v))) {s with heap:=s.heap.update p (Obj.mapSeq (·.setIfInBounds j u))}:=
  I.lstUpd hp ho (mapSeq_set its n j u) (r.set rv j) (by rw [List.length_set]; exact hz) s.toks
 by_cases h0:0≤k
 ·have hk:k.toNat=j:=by
   rw [seqIndex_of h0 h4] at h1
   exact Option.some.inj h1
  exact PySem.W.ki_setAt ho h0 (by omega) (by rw [List.size_toArray,← hl]; exact h4) (by rw [hk]; exact ⟨_,I',q⟩)
 ·have hk:(k + (its.toArray.size:Int)).toNat=j:=by
   rw [seqIndex_neg (by omega) h3] at h1
   rw [List.size_toArray,← hl]
   exact Option.some.inj h1
  exact PySem.W.ki_setBack ho (by omega) (by rw [List.size_toArray,← hl]; exact h3) (by omega) (by rw [hk]; exact ⟨_,I',q⟩)
theorem slice_bounds (lo hi:Option Int) (n:Nat):(sliceBounds lo hi none n).1=((HT.sIx n 0 lo:Nat):Int)∧(sliceBounds lo hi none n).2.1=((HT.sIx n n hi:Nat):Int)∧(sliceBounds lo hi none n).2.2=1:=by
 refine ⟨?_,?_,rfl⟩
 ·cases lo with
  | none=>simp [sliceBounds,HT.sIx]
  | some i=>
   simp only [sliceBounds,HT.sIx,Option.getD_none,show (1:Int) > 0 by decide,if_true]
   by_cases h:i < 0
   ·simp only [h,if_true] <;> omega
   ·simp only [h,if_false] <;> omega
 ·cases hi with
  | none=>simp [sliceBounds,HT.sIx]
  | some i=>
   simp only [sliceBounds,HT.sIx,Option.getD_none,show (1:Int) > 0 by decide,if_true]
   by_cases h:i < 0
   ·simp only [h,if_true] <;> omega
   ·simp only [h,if_false] <;> omega
theorem slicePick_cut (its:List Value) (lo hi:Option Int):slicePick its.toArray lo hi none=((its.drop (HT.sIx its.length 0 lo)).take (HT.sIx its.length its.length hi - HT.sIx its.length 0 lo)).toArray:=by
 obtain ⟨h1,h2,h3⟩:=slice_bounds lo hi its.toArray.size
 unfold slicePick
 rw [h1,h2,h3]
 simp only [sliceRange_one,pick_run,List.size_toArray] <;> rfl
def rSlL (K:PySem.W.Frag):V→Option Int→Option Int→Hp→VK→Prop:=fun x lo hi H Q=>∃a xs,x = .ref a∧SqL K H a xs∧∀p,H p=none→Q (.ref p) (upd H p (.lst (cutV xs lo hi)))
theorem sl_list:SlR X (rSlL X.K):=by
 intro pins s σ H x v vl vu lo hi sl Q I rx hs pl pu h
 obtain ⟨a,xs,rfl,hx,q⟩:=h
 cases rx
 obtain ⟨its,r,ht,hz⟩:=I.list hx
 have hlen:=r.length
 refine ⟨"list",_,slot_list_getitem.lookup,ht.isList.typeIs,?_⟩
 refine wpAny_getItem_list_slice ht.isList hs pl pu .none (by simp) ?_ (by rw [List.size_toArray] <;> omega)
 rw [slicePick_cut,← hlen]
 refine ⟨.ref s.heap.objs.size,_,I.laid (t':=s.toks) (o:=.lst (cutV xs lo hi)) (fun b ob q=>Heap.get?_push_of_some _ q) (Nat.le_refl _) ?_,rfl,q _ (I.hok.fresh (Nat.le_refl _))⟩
 exact ⟨Nat.le_trans (cutV_length xs lo hi) hz,_,0,(r.drop (HT.sIx xs.length 0 lo)).take (HT.sIx xs.length xs.length hi - HT.sIx xs.length 0 lo),Heap.get?_push_size _ rfl⟩
def flatV:V→Bool
 | .non=>true
 | .bl _=>true
 | .int _=>true
 | .str _=>true
 | _=>false
def eqV:V→V→Bool
 | .non,.non=>true
 | .bl a,.bl b=>a == b
 | .bl a,.int b=>(if a then 1 else 0) == b
 | .int a,.bl b=>a == (if b then 1 else 0)
 | .int a,.int b=>a == b
 | .str a,.str b=>a == b
 | _,_=>false
theorem eqAt_V {A:Around} {s:Shared} {y x:V} {u v:Value} (ry:RelV y u) (rx:RelV x v) (fy:flatV y=true) (fx:flatV x=true):SeqAt.EqAt A s u v (eqV y x):=by
 cases y with
 | non=>
  cases ry
  cases x with
  | non=>cases rx; exact SeqAt.EqAt.same _
  | bl b=>cases rx; exact SeqAt.EqAt.none_bool b
  | int b=>obtain ⟨t,rfl⟩:=rx; exact SeqAt.EqAt.none_int b t
  | str b=>obtain ⟨t,rfl⟩:=rx; exact SeqAt.EqAt.none_str b t
  | _=>exact absurd (show false=true from fx) Bool.false_ne_true
 | bl a=>
  cases ry
  cases x with
  | non=>cases rx; exact SeqAt.EqAt.bool_none a
  | bl b=>cases rx; exact SeqAt.EqAt.bool_bool a b
  | int b=>obtain ⟨t,rfl⟩:=rx; exact SeqAt.EqAt.bool_int a b t
  | str b=>obtain ⟨t,rfl⟩:=rx; exact SeqAt.EqAt.bool_str a b t
  | _=>exact absurd (show false=true from fx) Bool.false_ne_true
 | int a=>
  obtain ⟨t',rfl⟩:=ry
  cases x with
  | non=>cases rx; exact SeqAt.EqAt.int_none a t'
  | bl b=>cases rx; exact SeqAt.EqAt.int_bool a t' b
  | int b=>obtain ⟨t,rfl⟩:=rx; exact SeqAt.EqAt.int_int a t' b t
  | str b=>obtain ⟨t,rfl⟩:=rx; exact SeqAt.EqAt.int_str a t' b t
  | _=>exact absurd (show false=true from fx) Bool.false_ne_true
 | str a=>
  obtain ⟨t',rfl⟩:=ry
  cases x with
  | non=>cases rx; exact SeqAt.EqAt.str_none a t'
  | bl b=>cases rx; exact SeqAt.EqAt.str_bool a t' b
  | int b=>obtain ⟨t,rfl⟩:=rx; exact SeqAt.EqAt.str_int a t' b t
  | str b=>obtain ⟨t,rfl⟩:=rx; exact SeqAt.EqAt.str_str a t' b t
  | _=>exact absurd (show false=true from fx) Bool.false_ne_true
 | _=>exact absurd (show false=true from fy) Bool.false_ne_true
def eqU (x:V) (u:Value):Bool:=match u with
 | .none=>eqV .non x
 | .bool b=>eqV (.bl b) x
 | .int i _=>eqV (.int i) x
 | .str z _=>eqV (.str z) x
 | _=>false
theorem eqU_of {x y:V} {u:Value} (r:RelV y u) (f:flatV y=true):eqU x u=eqV y x:=by
 cases y with
 | non=>cases r; rfl
 | bl b=>cases r; rfl
 | int i=>obtain ⟨t,rfl⟩:=r; rfl
 | str z=>obtain ⟨t,rfl⟩:=r; rfl
 | _=>exact absurd (show false=true from f) Bool.false_ne_true
theorem any_eqU {x:V}:∀{xs:List V} {us:List Value},Vals xs us→xs.all flatV=true→us.any (eqU x)=xs.any fun y=>eqV y x
 | _,_,.nil,_=>rfl
 | y :: xs,u :: us,.cons r t,f=>by
  rw [List.all_cons,Bool.and_eq_true] at f
  rw [List.any_cons,List.any_cons,eqU_of r f.1,any_eqU t f.2]
theorem mem_eqAt {A:Around} {s:Shared} {x:V} {v:Value} (rx:RelV x v) (fx:flatV x=true):∀{xs:List V} {us:List Value},Vals xs us→xs.all flatV=true→∀u∈us,SeqAt.EqAt A s u v (eqU x u)
 | _,_,.nil,_=>fun u hu=>by cases hu
 | y :: xs,u :: us,.cons r t,f=>fun u' hu=>by
  rw [List.all_cons,Bool.and_eq_true] at f
  rcases List.mem_cons.mp hu with rfl | hu
  ·rw [eqU_of r f.1]; exact eqAt_V r rx f.1 fx
  ·exact mem_eqAt rx fx t f.2 u' hu
def inV (x:V) (xs:List V):Bool:=xs.any fun y=>eqV y x
def rIn (K:PySem.W.Frag) (neg:Bool):R2:=fun x y H Q=>∃p xs,y = .ref p∧(SqL K H p xs∨SqT K H p xs)∧flatV x=true∧xs.all flatV=true∧Q (.bl (if neg then !inV x xs else inV x xs)) H
theorem op_notIn_seq:OpR X (compareOp .NotIn) (rIn X.K true):=by
 intro pins s σ H x y v u Q I rx ry h
 obtain ⟨p,xs,rfl,hq,fx,fs,q⟩:=h
 cases ry
 rcases hq with hq | hq
 ·obtain ⟨its,r,pl,hz⟩:=I.list hq
  refine SeqAt.notIn_listAt (eqU x) pl.isList (fun w hw=>mem_eqAt rx fx r fs w (by simpa using hw)) ⟨.bl _,H,I,rfl,?_⟩
  rw [show its.toArray.any (eqU x)=its.any (eqU x) by simp,any_eqU r fs]
  exact q
 ·obtain ⟨its,r,pl,hz⟩:=I.tuple hq
  refine SeqAt.notIn_tupleAt (eqU x) pl (fun w hw=>mem_eqAt rx fx r fs w (by simpa using hw)) ⟨.bl _,H,I,rfl,?_⟩
  rw [show its.toArray.any (eqU x)=its.any (eqU x) by simp,any_eqU r fs]
  exact q
theorem call_len_seq:CallR X (.builtin "len") (fun xs H Q=>∃p ys,xs=[.ref p]∧(SqL X.K H p ys∨SqT X.K H p ys)∧Q (.int ys.length) H):=by
 intro pins s σ H xs us Q I r h
 obtain ⟨p,ys,rfl,hq,q⟩:=h
 obtain ⟨u,rfl,rx⟩:=vals1 r
 cases rx
 have hn:=line63
 rcases hq with hq | hq
 ·obtain ⟨its,r',pl,hz⟩:=I.list hq
  have hlen:=r'.length
  exact Calls.call_len_list pl.isList (by simp only [List.size_toArray] <;> omega) ⟨.int ys.length,H,I.tok _,⟨s.toks + 1,by rw [List.size_toArray,hlen]⟩,q⟩
 ·obtain ⟨its,r',pl,hz⟩:=I.tuple hq
  have hlen:=r'.length
  exact len_tuple pl (by simp only [List.size_toArray] <;> omega) ⟨.int ys.length,H,I.tok _,⟨s.toks + 1,by rw [List.size_toArray,hlen]⟩,q⟩
theorem call_len_str:CallR X (.builtin "len") (fun xs H Q=>∃z,xs=[.str z]∧z.length≤sizeLine∧Q (.int z.length) H):=by
 intro pins s σ H xs us Q I r h
 obtain ⟨z,rfl,hz,q⟩:=h
 obtain ⟨u,rfl,t,rfl⟩:=vals1 r
 have hn:=line63
 exact len_str (by omega) ⟨.int z.length,H,I.tok _,⟨_,rfl⟩,q⟩
theorem call_list_of:CallR X (.type "list") (fun xs H Q=>∃p ys,xs=[.ref p]∧(SqL X.K H p ys∨SqT X.K H p ys)∧∀l,H l=none→Q (.ref l) (upd H l (.lst ys))):=by
 intro pins s σ H xs us Q I r h
 obtain ⟨p,ys,rfl,hq,q⟩:=h
 obtain ⟨u,rfl,rx⟩:=vals1 r
 cases rx
 have fin:∀(its:List Value),Vals ys its→ys.length≤sizeLine→∀(h':Heap) (c':Nat),(∀b o',s.heap.get? b=some o'→h'.get? b=some o')→
   h'.get? s.heap.objs.size=some {cls:=.type "list",dict:=none,data:=.seq its.toArray c',slots:=#[]}→EP X pins σ Q (.ref s.heap.objs.size) {s with heap:=h'}:=fun its r' hz h' c' kp e=>
  ⟨.ref s.heap.objs.size,_,I.laid (t':=s.toks) kp (Nat.le_refl _) (show ObjOk X.prog X.w _ h' _ (.lst ys) from ⟨hz,its,c',r',e⟩),rfl,q _ (I.hok.fresh (Nat.le_refl _))⟩
 rcases hq with hq | hq
 ·obtain ⟨its,r',pl,hz⟩:=I.list hq
  have hlen:=r'.length
  obtain ⟨o,ho,hc,n,hd⟩:=pl.isList
  exact call_list_seq p (.inl rfl) ho hc hd (fun h' c' kp e=>fin its r' hz h' c' kp e) (by simp only [List.size_toArray] <;> omega)
 ·obtain ⟨its,r',pl,hz⟩:=I.tuple hq
  have hlen:=r'.length
  obtain ⟨o,ho,hc,n,hd⟩:=pl
  exact call_list_seq p (.inr rfl) ho hc hd (fun h' c' kp e=>fin its r' hz h' c' kp e) (by simp only [List.size_toArray] <;> omega)
theorem call_tuple_of:CallR X (.type "tuple") (fun xs H Q=>∃p ys,xs=[.ref p]∧((SqL X.K H p ys∧∀l,H l=none→Q (.ref l) (upd H l (.tup ys)))∨(SqT X.K H p ys∧Q (.ref p) H))):=by
 intro pins s σ H xs us Q I r h
 obtain ⟨p,ys,rfl,h⟩:=h
 obtain ⟨u,rfl,rx⟩:=vals1 r
 cases rx
 rcases h with ⟨hq,q⟩ | ⟨hq,q⟩
 ·obtain ⟨its,r',pl,hz⟩:=I.list hq
  have hlen:=r'.length
  refine call_tuple_list pl.isList (fun h' kp=>?_) (by simp only [List.size_toArray] <;> omega)
  have I1:Inv X pins σ H {s with heap:=h'}:=I.kept (t':=s.toks) kp
  have I2:Inv X pins σ (upd H h'.objs.size (.tup ys)) {s with heap:=h'.push {cls:=.type "tuple",data:=.seq its.toArray}}:=
   I1.laid (t':=s.toks) (fun b o e=>Heap.get?_push_of_some _ e) (Nat.le_refl _) (show ObjOk X.prog X.w _ _ _ (.tup ys) from ⟨hz,its,r',IsTup.new _ _⟩)
  exact ⟨.ref h'.objs.size,_,I2,rfl,q _ (I1.hok.fresh (Nat.le_refl _))⟩
 ·obtain ⟨its,r',pl,hz⟩:=I.tuple hq
  exact call_tuple_same pl ⟨.ref p,H,I,rfl,q⟩
def tyV (K:PySem.W.Frag) (T:String) (x:V) (H:Hp):Prop:=match x with
 | .str _=>T = "str"
 | .int _=>T = "int"
 | .ref p=>(T = "list"∧∃xs,SqL K H p xs)∨(T = "tuple"∧∃o,K.lookup p=some o∧o.cls = .type "tuple"∧o.dict=none)∨
   (T = "dict"∧((∃kvs,H p=some (.dK kvs))∨∃kvs,H p=some (.dT kvs)))∨(T = "set"∧∃S n,H p=some (.set S n))
 | _=>False
theorem tyV_is {pins:List (Addr × Obj)} {σ:St} {H:Hp} {s:Shared} {T:String} {x:V} {v:Value} (I:Inv X pins σ H s) (r:RelV x v) (ty:tyV X.K T x H) :
  s.TypeIs v T∧∀a,v = .ref a→∃ob,s.heap.get? a=some ob∧ob.dict=none:=by
 cases x with
 | str z=>
  obtain ⟨t,rfl⟩:=r
  cases (show T = "str" from ty)
  exact ⟨typeIs_str s z t,fun _ e=>nomatch e⟩
 | int i=>
  obtain ⟨t,rfl⟩:=r
  cases (show T = "int" from ty)
  exact ⟨typeIs_int s i t,fun _ e=>nomatch e⟩
 | ref p=>
  cases r
  rcases ty with ⟨rfl,xs,hq⟩ | ⟨rfl,o,hk,hc,hd⟩ | ⟨rfl,hk⟩ | ⟨rfl,S,n,hk⟩
  ·obtain ⟨its,_,pl,_⟩:=I.list hq
   refine ⟨pl.isList.typeIs,fun a e=>?_⟩
   cases e
   obtain ⟨o,n,e,c,hd,_⟩:=pl
   exact ⟨o,e,hd⟩
  ·refine ⟨⟨o,I.kIn p o hk,hc⟩,fun a e=>?_⟩
   cases e
   exact ⟨o,I.kIn _ o hk,hd⟩
  ·have z:∃o,s.heap.get? p=some o∧o.ExactDict:=by
    rcases hk with ⟨kvs,hk⟩ | ⟨kvs,hk⟩
    ·obtain ⟨_,_,_,_,o,_,_,e,ex,_⟩:=I.hok p _ hk
     exact ⟨o,e,ex⟩
    ·obtain ⟨_,_,_,_,o,_,_,e,ex,_⟩:=I.hok p _ hk
     exact ⟨o,e,ex⟩
   obtain ⟨o,e,ex⟩:=z
   refine ⟨⟨o,e,ex.1⟩,fun a e2=>?_⟩
   cases e2
   exact ⟨o,e,ex.2.1⟩
  ·obtain ⟨o,_,_,_,e,ex,_⟩:=I.hok p _ hk
   refine ⟨⟨o,e,ex.1⟩,fun a e2=>?_⟩
   cases e2
   exact ⟨o,e,ex.2.1⟩
 | _=>exact False.elim ty
def tBM0 (K:PySem.W.Frag) (T:String) (r:V→List V→Hp→VK→Prop) (to:TE):TE:=fun σ H Q=>to σ H fun x H1=>tyV K T x H1∧r x [] H1 Q
def tBM (K:PySem.W.Frag) (T:String) (r:V→List V→Hp→VK→Prop) (to:TE) (t:TA):TE:=fun σ H Q=>to σ H fun x H1=>tyV K T x H1∧t σ H1 fun xs H2=>r x xs H2 Q
variable {o e:Expr} {es:List Expr} {to:TE} {t:TA} {name:Str} {apos cpos:Pos} {T id:String} {r:V→List V→Hp→VK→Prop}
theorem pe_bm0 (pa:PlainAttrs T) (slot:Slot T name id) (hty:typeOf (.builtin id)=pure (.type "method_descriptor")) (hm:MtR X id r) (ho:PE X o to)
  (hbase:attributeBase o name X.env (eval o X.env)=eval o X.env:=by rfl) (hline:(apos.endLine == cpos.line)=true:=by rfl):PE X (.Call (.Attribute o name apos) [] [] cpos) (tBM0 X.K T r to):=by
 intro pins s σ H Q I h
 refine wpAny_Call_method0_late hbase hline (thn (ho pins s σ H _ I h) fun v s1 ⟨x,H1,I1,r1,ty,q1⟩=>?_)
 obtain ⟨h1,h2⟩:=tyV_is I1 r1 ty
 exact ⟨T,id,pa,slot,hty,h1,h2,Calls.callWith_builtin rfl (PySem.evalArgs_none (hm pins s1 σ H1 x [] v [] Q I1 r1 .nil q1))⟩
theorem pe_bm (pa:PlainAttrs T) (slot:Slot T name id) (hty:typeOf (.builtin id)=pure (.type "method_descriptor")) (hm:MtR X id r) (ho:PE X o to) (ha:PA X (e :: es) t)
  (hbase:attributeBase o name X.env (eval o X.env)=eval o X.env:=by rfl)
  (hfew:((backTo cpos (starEach (e :: es) X.env)).all (fun x=>!x.1) && (backToKw cpos (keywordEach [] X.env)).all (fun x=>x.1.isSome)
   && decide ((e :: es).length + ([]:List Keyword).length + (if ([]:List Keyword).isEmpty then 0 else 1) < 30))=true:=by rfl)
  (hline:(apos.endLine == cpos.line)=true:=by rfl) (hs:starEach (e :: es) X.env=(false,eval e X.env) :: starEach es X.env:=by rfl) (hplain:(backTo cpos (starEach es X.env)).any (·.1)=false:=by rfl) :
  PE X (.Call (.Attribute o name apos) (e :: es) [] cpos) (tBM X.K T r to t):=by
 intro pins s σ H Q I h
 refine wpAny_Call_method_late hbase hfew hline rfl (thn (ho pins s σ H _ I h) fun v s1 ⟨x,H1,I1,r1,ty,q1⟩=>?_)
 obtain ⟨h1,h2⟩:=tyV_is I1 r1 ty
 refine ⟨T,id,pa,slot,hty,h1,h2,?_⟩
 have hA:=ha cpos pins s1 σ H1 _ I1 q1
 rw [hs] at hA ⊢
 refine Calls.callWith_builtin (by show (false || (backTo cpos (starEach es X.env)).any (·.1))=false; rw [hplain] <;> rfl) (Calls.evalArgs_plain ?_)
 exact thn hA fun us s2 ⟨vs,H2,I2,r2,q2⟩=>hm pins s2 σ H2 x vs v us Q I2 r1 r2 q2
/- xs.append(e),list.index on a module's tuple .. are MtR facts of 06m -/
end
def MtM (X:Cx) (id:String) (r:V→List V→Hp→VK→Prop):Prop:=
 ∀(pins:List (Addr × Obj)) (s:Shared) (σ:St) (H:Hp) (x:V) (xs:List V) (v:Value) (us:List Value) (Q:VK),Inv X pins σ H s→RelV x v→Vals xs us→r x xs H Q→
  wpAny (model X.prog X.w) X.A (call (.builtin id) (v :: us)) (EP X pins σ Q) X.xe s
theorem Vals.one:∀{x:V} {us:List Value},Vals [x] us→∃u,us=[u]∧RelV x u
 | _,_,.cons r .nil=>⟨_,rfl,r⟩
theorem Vals.reverse {xs:List V} {us:List Value} (h:Vals xs us):Vals xs.reverse us.reverse:=by
 induction h with
 | nil=>exact .nil
 | cons r t ih=>rw [List.reverse_cons,List.reverse_cons]; exact Vals.append ih (.cons r .nil)
theorem Vals.rep {xs:List V} {us:List Value} (h:Vals xs us):∀k:Nat,Vals (List.replicate k xs).flatten (List.replicate k us).flatten
 | 0=>.nil
 | k + 1=>by
  rw [List.replicate_succ,List.replicate_succ,List.flatten_cons,List.flatten_cons]
  exact Vals.append h (Vals.rep h k)
theorem foldl_rep (its:List Value):∀(k:Nat) (acc:List Value),
  List.foldl (fun x1 x2=>x1 ++ x2) acc.toArray (List.replicate k its.toArray)=(acc ++ (List.replicate k its).flatten).toArray
 | 0,acc=>by simp
 | k + 1,acc=>by
  have e:acc.toArray ++ its.toArray=(acc ++ its).toArray:=by simp
  have e2:(acc ++ its) ++ (List.replicate k its).flatten=acc ++ (List.replicate (k + 1) its).flatten:=by
   rw [List.replicate_succ,List.flatten_cons,List.append_assoc]
  rw [← e2,← foldl_rep its k (acc ++ its),← e,List.replicate_succ,List.foldl_cons]
section
variable {X:Cx} {pins:List (Addr × Obj)} {σ:St} {H:Hp} {s:Shared} {l b:Addr} {xs ys zs:List V}
theorem Inv.lset {its its':List Value} {n:Nat} {f:Array Value→Array Value} {t':Nat} (I:Inv X pins σ H s) (hH:H l=some (.lst xs))
  (e:s.heap.get? l=some {cls:=.type "list",data:=.seq its.toArray n}) (hf:f its.toArray=its'.toArray) (hv:Vals ys its') (hz:ys.length≤sizeLine) :
  Inv X pins σ (upd H l (.lst ys)) {s with heap:=s.heap.update l (Obj.mapSeq f),toks:=t'}:=by
 have q:=PySem.IsL.update e f
 rw [hf] at q
 refine I.write (x:=l) (e:=l) (by rw [hH]; exact trivial) (.inl rfl) (fun b' u hb hu=>(Heap.get?_update_other s.heap (Obj.mapSeq f) (Ne.symm hb)).trans hu) ⟨_,q⟩ ?_
 exact ⟨hz,its',_,hv,q⟩
theorem Inv.lnew {its:List Value} {t':Nat} (I:Inv X pins σ H s) (hv:Vals ys its) (hz:ys.length≤sizeLine) :
  Inv X pins σ (upd H s.heap.objs.size (.lst ys)) {s with heap:=s.heap.push {cls:=.type "list",data:=.seq its.toArray},toks:=t'}:=
 I.laid (fun _ _ q=>Heap.get?_push_of_some _ q) (Nat.le_refl _) ⟨hz,its,0,hv,Heap.get?_push_size _ rfl⟩
theorem Inv.fresh (I:Inv X pins σ H s):H s.heap.objs.size=none:=I.hok.fresh (Nat.le_refl _)
theorem Inv.lstM (I:Inv X pins σ H s) (hH:H l=some (.lst xs)):xs.length≤sizeLine∧∃(its:List Value) (n:Nat),Vals xs its∧xs.length=its.length∧s.heap.get? l=some {cls:=.type "list",data:=.seq its.toArray n}:=by
 obtain ⟨z,its,n,r,e⟩:=I.hok l _ hH
 exact ⟨z,its,n,r,r.length,e⟩
theorem notLongL {n:Nat} (h:n≤sizeLine):Builtin.List.listTooLong n=false:=by
 unfold Builtin.List.listTooLong
 exact decide_eq_false (by omega)
end
section
variable {X:Cx}
def rAppend:V→List V→Hp→VK→Prop:=fun x vs H Q=>∃l xs y,x = .ref l∧vs=[y]∧H l=some (.lst xs)∧xs.length < sizeLine∧Q .non (upd H l (.lst (xs ++ [y])))
theorem mt_append:MtM X "list.append" rAppend:=by
 intro pins s σ H x vs v us Q I rx rv h
 obtain ⟨l,xs,y,rfl,rfl,hH,hz,q⟩:=h
 cases rx
 obtain ⟨u,rfl,ru⟩:=rv.one
 obtain ⟨z,its,n,r,hl,e⟩:=I.lstM hH
 refine call_meets F.slot_list_append ⟨_,e,rfl⟩ F.entry_list_append (F.args_list_append_2 _ _) (PySem.list_append l its.toArray n u (by rw [List.size_toArray]; omega)) ⟨e,?_⟩
 refine ⟨.non,_,I.lset (its':=its ++ [u]) hH e (by simp) (r.append (.cons ru .nil)) ?_,rfl,q⟩
 rw [List.length_append,List.length_singleton]
 omega
def rExtend:V→List V→Hp→VK→Prop:=fun x vs H Q=>∃l b xs zs,x = .ref l∧vs=[.ref b]∧H l=some (.lst xs)∧H b=some (.lst zs)∧xs.length + zs.length≤sizeLine∧Q .non (upd H l (.lst (xs ++ zs)))
theorem mt_extend:MtM X "list.extend" rExtend:=by
 intro pins s σ H x vs v us Q I rx rv h
 obtain ⟨l,b,xs,zs,rfl,rfl,hH,hB,hz,q⟩:=h
 cases rx
 obtain ⟨u,rfl,ru⟩:=rv.one
 cases ru
 obtain ⟨z,its,n,r,hl,e⟩:=I.lstM hH
 obtain ⟨z2,its2,n2,r2,hl2,e2⟩:=I.lstM hB
 have hsz:its.toArray.size + its2.toArray.size≤sizeLine:=by rw [List.size_toArray,List.size_toArray]; omega
 have hlong:¬(!its.toArray.isEmpty && Builtin.List.listTooLong (its.toArray.size + its2.toArray.size))=true:=by
  rw [notLongL hsz,Bool.and_false]
  exact Bool.false_ne_true
 refine call_meets F.slot_list_extend ⟨_,e,rfl⟩ F.entry_list_extend (F.args_list_extend_2 _ _)
  (AutoSeq1.list_extend_list_list_0 l its.toArray n b its2.toArray n2 hlong (by rw [List.size_toArray]; omega) (by omega)) ⟨e,e2,?_⟩
 refine ⟨.non,_,I.lset (its':=its ++ its2) hH e (by simp) (r.append r2) ?_,rfl,q⟩
 rw [List.length_append]
 omega
def rCat:R2:=fun x y H Q=>∃l b xs zs,x = .ref l∧y = .ref b∧H l=some (.lst xs)∧H b=some (.lst zs)∧xs.length + zs.length≤sizeLine∧∀p,H p=none→Q (.ref p) (upd H p (.lst (xs ++ zs)))
theorem op_cat:OpR X (binaryOp .Add) rCat:=by
 intro pins s σ H x y v u Q I rx ry h
 obtain ⟨l,b,xs,zs,rfl,rfl,hH,hB,hz,q⟩:=h
 cases rx
 cases ry
 obtain ⟨z,its,n,r,hl,e⟩:=I.lstM hH
 obtain ⟨z2,its2,n2,r2,hl2,e2⟩:=I.lstM hB
 refine PySem.P.add_list e e2 ?_ (by rw [List.size_toArray,List.size_toArray]; omega)
 have ea:its.toArray ++ its2.toArray=(its ++ its2).toArray:=by simp
 rw [ea]
 exact ⟨.ref _,_,I.lnew (t':=s.toks) (r.append r2) (by rw [List.length_append]; omega),rfl,q _ I.fresh⟩
def rRep:R2:=fun x y H Q=>∃l k xs,x = .ref l∧y = .int k∧H l=some (.lst xs)∧-(2 ^ 63)≤k∧k < 2 ^ 63∧xs.length * k.toNat≤sizeLine∧
 ∀p,H p=none→Q (.ref p) (upd H p (.lst (List.replicate k.toNat xs).flatten))
theorem len_rep {α:Type} (xs:List α) (k:Nat):(List.replicate k xs).flatten.length=k * xs.length:=by
 induction k with
 | zero=>simp
 | succ k ih=>rw [List.replicate_succ,List.flatten_cons,List.length_append,ih,Nat.succ_mul,Nat.add_comm]
theorem op_rep:OpR X (binaryOp .Mult) rRep:=by
 intro pins s σ H x y v u Q I rx ry h
 obtain ⟨l,k,xs,rfl,rfl,hH,h1,h2,hz,q⟩:=h
 cases rx
 obtain ⟨t,rfl⟩:=ry
 obtain ⟨z,its,n,r,hl,e⟩:=I.lstM hH
 have hlen:its.toArray.size * k.toNat≤sizeLine:=by rw [List.size_toArray,← hl]; exact hz
 have hcap:¬its.toArray.size * k.toNat > (2 ^ 63 - 1) / 8:=by
  have:(sizeLine:Nat)≤(2 ^ 63 - 1) / 8:=by decide
  omega
 have hfit:¬(!Builtin.List.listFitsIndex k)=true:=by
  rw [fitsIndex_both h1 h2]
  exact Bool.false_ne_true
 have hlong:¬Builtin.List.listTooLong (its.toArray.size * k.toNat)=true:=by
  rw [notLongL hlen]
  exact Bool.false_ne_true
 have hnew:List.foldl (fun x1 x2=>x1 ++ x2) #[] (List.replicate (if its.toArray.isEmpty=true then 0 else k.toNat) its.toArray)=(List.replicate k.toNat its).flatten.toArray:=by
  have f0:∀m:Nat,List.foldl (fun x1 x2=>x1 ++ x2) #[] (List.replicate m its.toArray)=(List.replicate m its).flatten.toArray:=fun m=>by
   have:=foldl_rep its m []
   rw [List.nil_append] at this
   exact this
  rw [f0]
  cases its with
  | nil=>simp
  | cons a r'=>rw [if_neg (by simp)]
 refine wpAny_binaryOp_repeat_ref (T:="list") (U:="int") (by decide) ⟨_,e,rfl⟩ (fun s'=>typeIs_int s' k t) noFill_list_mul F.fills_int_mul F.slot_int_rmul repeat_list F.slot_int_index.lookup
  (call_meets F.slot_int_rmul (typeIs_int s k t) F.entry_int_rmul (F.args_int_rmul_2 _ _) (int___rmul___int_list k t l its.toArray n)
   ⟨e,rfl,⟨_,e,rfl⟩,call_meets F.slot_list_mul ⟨_,e,rfl⟩ F.entry_list_mul (F.args_list_mul_2 _ _) (AutoListH.list___mul___list_int_3 l its.toArray n k t hfit hcap hlong) ⟨e,?_⟩⟩)
 rw [hnew]
 exact ⟨.ref _,_,I.lnew (t':=s.toks) (r.rep k.toNat) (by rw [len_rep,Nat.mul_comm]; exact hz),rfl,q _ I.fresh⟩
end
section
variable {prog:Program} {w:World} {A:Around} {E:Value→Shared→Prop} {s:Shared}
set_option maxRecDepth 100000 in
end
section
variable {X:Cx}
end
end L2
namespace Att
open PySem PySem.W PySem.Calls PyProof.Rows
theorem ints_of_wellAll {P:Params} {h:Heap}:∀(ns:List Int) (vs:List Value),WellAll P h vs (ns.map WData.int)→IntsAre vs ns:=by
 intro ns
 induction ns with
 | nil=>
  intro vs w
  rw [List.map_nil] at w
  cases w
  exact .nil
 | cons n ns ih=>
  intro vs w
  rw [List.map_cons] at w
  cases w with
  | cons a b=>
   cases a
   exact .cons _ _ (ih _ b)
theorem script_of {l:OpenLaw} {n:Nat} (hn:l.most=some n) {P:Params} {h:Heap} {args:List WData} {vals:List Value}
  (hpre:l.row.toRowW.claim.pre args=true) (hwl:WellAll P h vals args) :
  ∃a vs ns,vals=[Value.ref a]∧args=[WData.list (ns.map WData.int)]∧h.get? a=some {cls:=.type "list",data:=.seq vs.toArray}∧IntsAre vs ns∧ns.length≤n:=by
 have hsh:WShape.hasAll [] args [.list .int]=true:=(pre_splitW hpre).1
 have hc:l.pre.holds [] {args:=args}=true:=(pre_splitW hpre).2
 obtain ⟨d,r,rfl,h1,h2⟩:=hasAllW_cons hsh
 obtain rfl:=hasAllW_nil h2
 obtain ⟨xs,rfl,h3⟩:=hasW_list h1
 obtain ⟨ns,rfl⟩:=items_int h3
 have hlen:ns.length≤n:=by
  unfold OpenLaw.pre at hc
  have h4:(WTm.not (.lt (.lit (.int (n:Int))) (.len (.arg 0)))).holds [] {args:=[.list (ns.map .int)]}=true:=by
   have h4:=(holds_andW hc).1
   rw [hn] at h4
   exact h4
  have h5:=condW_of h4 (w_not (w_lt w_lit (w_len_list (w_arg rfl))))
  rw [List.length_map] at h5
  refine Nat.le_of_not_lt fun q=>?_
  have q':(n:Int) < ((ns.length:Nat):Int):=by omega
  first
   | (rw [decide_eq_true q'] at h5; exact absurd h5 (by decide))
   | (simp at h5; omega)
 cases hwl with
 | cons w1 w2=>
  cases w2
  cases w1 with
  | list ho hall=>exact ⟨_,_,ns,rfl,rfl,ho,ints_of_wellAll ns _ hall,hlen⟩
theorem post_true (l:OpenLaw) (args:List WData):l.row.toRowW.claim.post args (.bool true) args=true:=
 postW_of (r:=l.row.toRowW) (X:=(true == true))
  (show WShape.has [] (.bool true) .bool=true by first | rfl | decide | simp [WShape.has,WShape.arms,WShape.armsAll])
  (show (WTm.eq .res (.lit (.bool true))).value [] {args:=args,res:=some (.bool true),after:=args}=some (.bool (true == true)) from w_eq_bool (w_res rfl) w_lit) rfl
theorem attach_call {l:OpenLaw} {n:Nat} {q:Program} {loose:List Str} {XP:(Str→Option Value)→Heap→Prop} {YP:World→Heap→Prop} {d:DefRec}
  (hn:l.most=some n) (hdf:d.params.defaults=[])
  (call:∀(w:World) (s₀ s₁:Shared) (mg mb:Str→Option Value) (fa:Addr) (o:Obj) (pm cd doc:Value) (a:Addr) (vs:List Value) (ns:List Int),
   Ground q loose [] XP w s₀ mg mb s₁.heap→YP w s₁.heap→
   s₁.heap.get? fa=some o→o.data = .func (docDef d.name d.params d.body d.scope pm cd doc)→s₁.heap.CodeRec cd d.name→mg d.name=some (.ref fa)→
   s₁.heap.get? a=some {cls:=.type "list",data:=.seq vs.toArray}→IntsAre vs ns→ns.length≤n→s₁.gens = #[]→
   codeAny (model l.prog w) callerA (.call (.ref fa) ⟨[.ref a],[]⟩) (fun r s'=>r = .ok (.ret (.bool true))∧OldK s₁.heap s'.heap∧s'.os=s₁.os∧AllBare s'.gens) s₁) :
  WalkO q loose XP YP l.row.toRowW d [] (fun f vs=>PySem.call f vs):=by
 intro w s₀ s₁ mg mb G Y fa o pm cd doc dV kV ho hd hcd hD hmg hg args vals as hpre hlay hrd hwl hlo
 obtain rfl:dV = .none:=Dflts.none hD hdf
 obtain rfl:kV = .none:=Dflts.noKw hD
 obtain ⟨a,vs,ns,rfl,rfl,hobj,hints,hlen⟩:=script_of hn hpre hwl
 refine enter_call (codeAny_mono (call w s₀ s₁ mg mb fa o pm cd doc a vs ns G Y ho (fd_plain hd) hcd hmg hobj hints hlen hg) fun r s' hq=>?_)
 obtain ⟨rfl,h2,h3,h4⟩:=hq
 exact ⟨.inl ⟨.bool true,.bool true,[],rfl,fun _=>rfl,.bool true,post_true l _,fun _=>⟨List.Pairwise.nil,fun _ hm=>(nomatch hm)⟩⟩,h2,h3,h4⟩
section
variable {prog:Program} {w:World} {A:Around} {E:Value→Shared→Prop} {s:Shared} {K:Frag}
end
end Att
namespace L2
open PySem PySem.Spec PyProof.Rows
theorem vals_ints:∀{vs:List Value} {ns:List Int},IntsAre vs ns→Vals (ns.map V.int) vs
 | _,_,.nil=>.nil
 | _,_,.cons n t h=>.cons ⟨t,rfl⟩ (vals_ints h)
end L2
/- THE LAST THEOREM (shape; LID,My.* are yours):
   My.Adr: a structure of the addresses that your layer names (classes,functions); My.Txt K t: a structure (Prop) of the equations over K;
   My.txt_mk:{K} {implicit addresses ..} (e1:nsIn K mainGlobals "law" = some (some (.ref f))) (e2:K.lookup f=some ⟨oc,od,.func (fnOf "law" "law" params body scope dV kV doc pm an cdv ct),sl⟩) (e3:codeIn K cdv "law" = true) ..:∃t,My.Txt K t
set_option maxRecDepth 100000 in
set_option maxHeartbeats 0 in
theorem PySem.Challenge.cw_LID_holds : PySem.Challenge.rw_LID.Holds := by
 w_on; o_law; k_head; (case hw=>w_witness2)
 k_fill
 refine L2.walk_of (l:=PySem.Challenge.rw_LID) (n:=63) (k:=40) (x:="script") (CX:=fun w=>..) (sp:=fun _=>My.sp_law) rfl (by decide) rfl ⟨rfl,by decide,by decide⟩ (fun w h Y=>PySem.W.kIn_of Y) ?F ?S ?C
 case F=>
  intro w mg fa h KX G hmg
  have T:∃t,My.Txt (L2.KOf KX) t:=by
   dsimp only [L2.KOf]                          -- K must stand as «<heap const> w.params» for k_is
   refine' My.txt_mk ?e1 ?e2 ?e3 ..
   (case e1=>PySem.W.k_is)                    -- in the order: a name -> its address -> its object -> its parts
   (case e2=>PySem.W.k_is)
   ..
  obtain ⟨t,T⟩:=T
  have e0:=hmg.symm.trans (PySem.W.mg_of KX G T.law)
  cases e0                                       -- fa is the law's own address
  exact ⟨_,fun s u=>.of_eq rfl,fun base kb nb=>My.law_fn T kb nb⟩     -- if «.of_eq rfl» comes too early: refine' ⟨_,?b,fun base kb nb=>My.law_fn T kb nb⟩; exact fun s u=>.of_eq rfl
 case S=>exact fun w H a ns hl hO hS=>..
 case C=>exact ..
(the tactic k_is has no namespace: write k_is) -/
namespace L2
open PySem PySem.Spec PyProof.Rows
def defArgs (s:Stmt):Arguments:=match s with
 | .FunctionDef _ a _ _ _ _ _ _ _ _=>a
 | _=>{posonlyargs:=[],args:=[],vararg:=none,kwonlyargs:=[],kw_defaults:=[],kwarg:=none,defaults:=[]}
def defBody (s:Stmt):List Stmt:=match s with
 | .FunctionDef _ _ b _ _ _ _ _ _ _=>b
 | _=>[]
def defScope (s:Stmt):Scope:=match s with
 | .FunctionDef _ _ _ _ _ _ sc _ _ _=>sc
 | _=>{kind:=.function,names:=[],isGenerator:=false,isCoroutine:=false}
abbrev E0:XK:=fun _ _ _=>False
section
variable {P:Program} {w:World} {K:PySem.W.Frag} {mg:Str→Option Value} {base:Heap}
end
section
variable {X:Cx}
theorem pv (i:Nat) {x:Str} {pos:Pos} (hN:X.N[i]? = some x:=by rfl) (hv:Vis X.env.scope x:=by first | exact Or.inl rfl | exact Or.inr (Or.inl rfl) | exact Or.inr (Or.inr rfl)) (hd:(x == ("__debug__" : Str))=false:=by decide)
  (hcd:(x == ("__classdict__" : Str))=false:=by decide):PE X (.Name x pos) (tVar i):=pe_var hN hv hd hcd
end
theorem iteF {A B:Prop} (h:B):if false=true then A else B:=by
 rw [if_neg Bool.false_ne_true]
 exact h
theorem iteT {A B:Prop} (h:A):if true=true then A else B:=by
 rw [if_pos rfl]
 exact h
theorem ite2 {c A B:Prop} [Decidable c] (h1:c→A) (h2:¬c→B):if c then A else B:=by
 by_cases h:c
 ·rw [if_pos h]
  exact h1 h
 ·rw [if_neg h]
  exact h2 h
def Same (H H':Hp):Prop:=∀b o,H b=some o→H' b=some o
theorem Same.refl (H:Hp):Same H H:=fun _ _ h=>h
theorem Same.trans {H H1 H2:Hp} (a:Same H H1) (b:Same H1 H2):Same H H2:=fun c o h=>b c o (a c o h)
theorem Same.seq {K:PySem.W.Frag} {H H':Hp} {a:Addr} {xs:List V} (e:Same H H') (h:SqL K H a xs):SqL K H' a xs:=by
 rcases h with (h | ⟨o,h⟩) | h
 ·exact .inl (.inl (e _ _ h))
 ·exact .inl (.inr ⟨o,e _ _ h⟩)
 ·exact .inr h
section
variable {X:Cx} {es:List Expr} {tk:Nat} {tpos:Pos}
end
def big:Nat:=2 ^ 4000
theorem big_log {n:Nat} (h:n < big):n.log2 < 4000:=by
 by_cases h0:n=0
 ·rw [h0]; decide +kernel
 ·exact (Nat.log2_lt h0).mpr h
section
variable {X:Cx}
theorem op_fdivB:OpR X (binaryOp .FloorDiv) (rI (fun _ j=>j≠0∧j.natAbs < big) fun i j=>.int (i.fdiv j)):=opI fun _ _ _ _ _ _ _ hc q=>floordiv_int hc.1 q (.inl (PyProof.noPylong_of_log2 (Nat.lt_trans (big_log hc.2) (by decide))))
theorem op_fdivP:OpR X (binaryOp .FloorDiv) (rI (fun _ j=>0 < j∧j.natAbs < big) fun i j=>.int (i / j)):=opI fun i j _ _ _ _ _ hc q=>by
 have h1:(0:Int) < j:=hc.1
 exact floordiv_int (by omega) (by rw [Int.fdiv_eq_ediv_of_nonneg i (by omega)]; exact q) (.inl (PyProof.noPylong_of_log2 (Nat.lt_trans (big_log hc.2) (by decide))))
end
def TbOk (h:Heap) (e:Addr) (vs:Array Value):Prop:=
 vs[1]? = some .none∨∃T oT ts,vs[1]? = some (.ref T)∧T≠e∧h.get? T=some oT∧oT.data = .fields ts∧ts[3]? = some .none
structure Noted (fs:List Addr) (e L:Addr) (oe:Obj) (vs:Array Value) (h h':Heap) (T:Addr) (fl:Value):Prop where
 new:h.get? T=none
 ne:T≠e
 exc:h'.get? e=some (oe.mapFields (·.setIfInBounds 1 (.ref T)))
 tb:∃oT ts,h'.get? T=some oT∧oT.data = .fields ts∧ts[3]? = some fl
 keep:∀b o,b∉fs→b≠e→vs[1]?≠some (.ref b)→h.get? b=some o→h'.get? b=some o
 slot:∀b o,b∈fs→h.get? b=some o→∃sl,h'.get? b=some {o with slots:=sl}
section
variable {M:Model} {A:Around} {E:Value→Shared→Prop} {s:Shared} {env:Env} {outer:List Env} {base:Heap} {L e:Addr} {oe:Obj} {vs:Array Value} {Q:Unit→Shared→Prop}
theorem entry_ok {head:Value} {had:Bool} (hfr:A.frames=some (env :: outer)) (hl:s.heap.FunFrames base (env :: outer)) (hf:env.frame=some L)
  (he:s.heap.get? e=some oe) (hd:oe.data = .fields vs) (hz:1 < vs.size)
  (h:∀h' T,s.heap.get? T=none→T≠e→h'.get? e=some (oe.mapFields (·.setIfInBounds 1 (.ref T)))→(∃oT ts,h'.get? T=some oT∧oT.data = .fields ts∧ts[3]? = some (rawInt L))→
   (∀b o,b∉frs (env :: outer)→b≠e→s.heap.get? b=some o→h'.get? b=some o)→(∀b o,b∈frs (env :: outer)→s.heap.get? b=some o→∃sl,h'.get? b=some {o with slots:=sl})→
   Q () {s with heap:=h'}) :
  wpAny M A (do let f ← frameOf env; let p ← entryPlaceOf L had; let n ← EntryCells.newEntry head f .none (rawInt L) .none p; setField (.ref e) 1 n) Q E s:=by
 have enf:e∉frs (env :: outer):=fun z=>by
  obtain ⟨_,o,ho,hn⟩:=hl.mem z
  rw [he] at ho; cases ho
  exact hn vs hd
 refine wpAny_bind (wpAny_frameOf_fun hfr hl hf fun g1 so=>?_)
 refine wpAny_bind (wpAny_entryPlaceOf fun pl hp=>?_)
 unfold EntryCells.newEntry newFields
 refine wpAny_bind (wpAny_newObj_type ?_ (hp.sizeOk5 _ _ _ _ _))
 have e1:g1.get? e=some oe:=(so.2.1 e enf).trans he
 generalize htb:({cls:=.type "traceback",dict:=none,data:=.fields ([head,.ref L,.none,rawInt L,.none] ++ (if pl.isEmpty then List.replicate 6 Value.none else pl)).toArray}:Obj)=tb
 have dtb:∃ts,tb.data = .fields ts∧ts[3]? = some (rawInt L):=by
  subst htb
  exact ⟨_,rfl,by simp⟩
 have ftb:tb.isFreed=false:=by subst htb; rfl
 have e2:(g1.push tb).get? e=some oe:=Heap.get?_push_of_some _ e1
 have tne:g1.objs.size≠e:=Nat.ne_of_gt (Heap.lt_size e1)
 refine wpAny_setField e2 hd hz ?_
 have d3:=Obj.data_mapFields hd (·.setIfInBounds 1 (Value.ref g1.objs.size))
 have keep:∀b o,b≠e→g1.get? b=some o→((g1.push tb).update e (Obj.mapFields (·.setIfInBounds 1 (Value.ref g1.objs.size)))).get? b=some o:=fun b o hb q=>by
  rw [Heap.get?_update_other _ _ (Ne.symm hb)]
  exact Heap.get?_push_of_some _ q
 refine h _ g1.objs.size (Heap.get?_none_of_le (Nat.le_of_eq so.1.symm)) tne (Heap.get?_update_self _ e2 (Obj.isFreed_of_fields d3)) ?_ (fun b o n1 n2 q=>keep b o n2 ((so.2.1 b n1).trans q)) (fun b o n1 q=>?_)
 ·obtain ⟨ts,q1,q2⟩:=dtb
  refine ⟨tb,ts,?_,q1,q2⟩
  rw [Heap.get?_update_other _ _ (Ne.symm tne)]
  exact Heap.get?_push_size g1 ftb
 ·obtain ⟨sl,q1⟩:=so.2.2 b o q
  exact ⟨sl,keep b _ (fun z=>enf (z ▸ n1)) q1⟩
theorem note_ok (hfr:A.frames=some (env :: outer)) (hl:s.heap.FunFrames base (env :: outer)) (hf:env.frame=some L)
  (he:s.heap.get? e=some oe) (hd:oe.data = .fields vs) (hv:TbOk s.heap e vs) (h:∀h' T,Noted (frs (env :: outer)) e L oe vs s.heap h' T (rawInt L)→Q () {s with heap:=h'}) :
  wpAny M A (noteFrame (.ref e) env) Q E s:=by
 unfold noteFrame
 simp only [hf]
 rcases hv with h1 | ⟨T,oT,ts,h1,ne,hT,dT,h3⟩
 ·refine wpAny_bind (wpAny_field he hd h1 ?_)
  rw [if_neg (by decide)]
  exact entry_ok hfr hl hf he hd (Array.getElem?_eq_some_iff.mp h1).1 fun h' T a b c d k sl=>h h' T ⟨a,b,c,d,fun b o n1 n2 _ q=>k b o n1 n2 q,sl⟩
 ·refine wpAny_bind (wpAny_field he hd h1 ?_)
  rw [if_pos (show (Value.ref T != Value.none)=true from by simp)]
  refine wpAny_bind (wpAny_field hT dT h3 ?_)
  rw [if_neg (show ¬((Value.none == rawInt L)=true) from by simp [rawInt])]
  refine wpAny_bind (wpAny_setField hT dT (Array.getElem?_eq_some_iff.mp h3).1 ?_)
  have oth:∀b,b≠T→(s.heap.update T (Obj.mapFields (·.setIfInBounds 3 Value.none))).get? b=s.heap.get? b:=fun b hb=>Heap.get?_update_other _ _ (Ne.symm hb)
  have nf:∀b o,s.heap.get? b=some o→(∀vs,o.data≠.fields vs)→b≠T:=fun b o q hn z=>by
   rw [z,hT] at q; cases q
   exact hn ts dT
  have hl2:=hl.of_keeps (h':=s.heap.update T (Obj.mapFields (·.setIfInBounds 3 Value.none))) fun b o q hn=>⟨o,(oth b (nf b o q hn)).trans q,rfl⟩
  refine entry_ok (s:={s with heap:=s.heap.update T (Obj.mapFields (·.setIfInBounds 3 Value.none))}) hfr hl2 hf ((oth e (Ne.symm ne)).trans he) hd (Array.getElem?_eq_some_iff.mp h1).1 fun h' T' a b c d k sl=>?_
  have nT:T'≠T:=fun z=>by
   have a':(s.heap.update T (Obj.mapFields (·.setIfInBounds 3 Value.none))).get? T'=none:=a
   rw [z,Heap.get?_update_self _ hT (Obj.isFreed_of_fields (Obj.data_mapFields dT _))] at a'
   cases a'
  refine h h' T' ⟨(oth T' nT).symm.trans a,b,c,d,fun b o n1 n2 n3 q=>k b o n1 n2 ((oth b fun z=>n3 (by rw [z]; exact h1)).trans q),fun b o n1 q=>?_⟩
  refine sl b o n1 ((oth b fun z=>?_).trans q)
  obtain ⟨_,o',ho,hn⟩:=hl.mem n1
  exact nf b o' ho hn z
theorem land_ok {fs:List Addr} {h0:Heap} {T:Addr} {fl:Value} (N:Noted fs e L oe vs h0 s.heap T fl) (hd:oe.data = .fields vs) (hz:1 < vs.size) (hT:T∉fs)
  (h:∀h',Noted fs e L oe vs h0 h' T .none→Q () {s with heap:=h'}):wpAny M A (setFlight (.ref e) none) Q E s:=by
 obtain ⟨oT,ts,q1,q2,q3⟩:=N.tb
 have h3:3 < ts.size:=(Array.getElem?_eq_some_iff.mp q3).1
 refine wpAny_setFlight_none N.exc (Obj.data_mapFields hd _) (by simp [hz]) q1 q2 h3 (h _ ?_)
 have oth:∀b,b≠T→(s.heap.update T (Obj.mapFields (·.setIfInBounds 3 Value.none))).get? b=s.heap.get? b:=fun b hb=>Heap.get?_update_other _ _ (Ne.symm hb)
 have old:∀b o,h0.get? b=some o→b≠T:=fun b o q z=>by rw [z,N.new] at q; cases q
 refine ⟨N.new,N.ne,(oth e (Ne.symm N.ne)).trans N.exc,⟨_,_,Heap.get?_update_self _ q1 (Obj.isFreed_of_fields (Obj.data_mapFields q2 _)),Obj.data_mapFields q2 _,by simp [h3]⟩,
  fun b o n1 n2 n3 q=>(oth b (old b o q)).trans (N.keep b o n1 n2 n3 q),fun b o n1 q=>?_⟩
 obtain ⟨sl,q4⟩:=N.slot b o n1 q
 exact ⟨sl,(oth b (old b o q)).trans q4⟩
theorem leave_ok (hfr:A.frames=some (env :: outer)) (hl:s.heap.FunFrames base (env :: outer)) (hf:env.frame=some L)
  (he:s.heap.get? e=some oe) (hd:oe.data = .fields vs) (hv:TbOk s.heap e vs) (h:∀h' T,Noted (frs (env :: outer)) e L oe vs s.heap h' T .none→Q () {s with heap:=h'}) :
  wpAny M A (leaving env (.ref e)) Q E s:=by
 unfold leaving
 have hz:1 < vs.size:=by
  rcases hv with h1 | ⟨T,oT,ts,h1,_⟩
  ·exact (Array.getElem?_eq_some_iff.mp h1).1
  ·exact (Array.getElem?_eq_some_iff.mp h1).1
 refine wpAny_bind (note_ok hfr hl hf he hd hv fun h1 T N=>?_)
 refine land_ok (s:={s with heap:=h1}) N hd hz (fun z=>?_) fun h' N'=>h h' T N'
 obtain ⟨_,o,ho,_⟩:=hl.mem z
 rw [N.new] at ho; cases ho
end
theorem ObjOk.there {P:Program} {w:World} {H:Hp} {h:Heap} {a:Addr} {o:HO} (x:ObjOk P w H h a o):∃ob,h.get? a=some ob:=by
 cases o with
 | lst xs=>obtain ⟨_,_,_,_,e⟩:=x; exact ⟨_,e⟩
 | tup xs=>obtain ⟨_,_,_,o,e,_⟩:=x; exact ⟨_,e⟩
 | dK kvs=>obtain ⟨_,_,_,_,o,_,_,e,_⟩:=x; exact ⟨_,e⟩
 | dT kvs=>obtain ⟨_,_,_,_,o,_,_,e,_⟩:=x; exact ⟨_,e⟩
 | set S n=>obtain ⟨o,_,_,_,e,_⟩:=x; exact ⟨_,e⟩
 | ins C dx fs=>obtain ⟨_,_,_,e,_⟩:=x; exact ⟨_,e⟩
 | own y=>exact x
 | xd fs=>obtain ⟨_,⟨_,_,_,e,_⟩,_⟩:=x; exact ⟨_,e⟩
 | rng lo hi=>obtain ⟨_,_,_,e⟩:=x; exact ⟨_,e⟩
 | frz ob u=>obtain ⟨e,_⟩:=x; exact ⟨_,e⟩
 | tbl ps=>exact ⟨_,(show h.get? a=some _ from x)⟩
 | met f y=>exact ⟨_,(show h.get? a=some _ from x)⟩
 | ext φ=>obtain ⟨_,e,_⟩:=x; exact e
theorem HOk.none_of {P:Program} {w:World} {H:Hp} {h:Heap} {a:Addr} (x:HOk P w H h) (e:h.get? a=none):H a=none:=by
 cases q:H a with
 | none=>rfl
 | some o=>
  obtain ⟨ob,z⟩:=(x a o q).there
  rw [e] at z; cases z
theorem HOk.keepT {P:Program} {w:World} {H:Hp} {h h':Heap} (x:HOk P w H h) (k:∀b o u,H b=some u→h.get? b=some o→h'.get? b=some o):HOk P w H h':=fun a o e=>
 (x a o e).stay (fun b u hb q=>by
  rcases hb with z | z
  ·rw [z] at q ⊢; exact k a u o e q
  ·exact k b u _ z q) (fun _ q=>q) fun _ _ q=>q
theorem Un.post {fs:List Addr} {H H':Hp} {h h1 h2:Heap} (u:Un fs [] H H' h h1) (k:∀b o p,h.get? b=some p→b∉fs→H' b=none→h1.get? b=some o→h2.get? b=some o)
  (sl:∀b o,b∈fs→h1.get? b=some o→∃sl,h2.get? b=some {o with slots:=sl}) (th:∀b o p,h.get? b=some p→h1.get? b=some o→∃o',h2.get? b=some o'):Un fs [] H H' h h2 where
 keep:=fun b o q n hb hx=>k b o o q hb (u.free b o q n hx) (u.keep b o q n hb hx)
 slot:=fun b o q n hb hx=>by
  obtain ⟨s1,e1⟩:=u.slot b o q n hb hx
  obtain ⟨s2,e2⟩:=sl b _ hb e1
  exact ⟨s2,e2⟩
 free:=u.free
 there:=fun b o q hx=>by
  obtain ⟨o1,e1⟩:=u.there b o q hx
  exact th b o1 o q e1
 tups:=u.tups
 frzs:=u.frzs
 tbls:=u.tbls
theorem Un.less {fs fs':List Addr} {H H':Hp} {h h1:Heap} (u:Un fs' [] H H' h h1) (hs:∀b∈fs,b∈fs') (hn:∀b∈fs',b∉fs→h.get? b=none):Un fs [] H H' h h1 where
 keep:=fun b o q n hb hx=>u.keep b o q n (fun z=>by rw [hn b z hb] at q; cases q) hx
 slot:=fun b o q n hb hx=>u.slot b o q n (hs b hb) hx
 free:=u.free
 there:=u.there
 tups:=u.tups
 frzs:=u.frzs
 tbls:=u.tbls
def dxOf (h:Heap) (e:Addr):Option Addr:=(h.get? e).bind fun o=>o.dict
theorem dxOf_of {h:Heap} {e:Addr} {o:Obj} (q:h.get? e=some o):dxOf h e=o.dict:=by unfold dxOf; rw [q]; rfl
structure Thrown (h0 h:Heap) (e C T:Addr):Prop where
 n0:h0.get? e=none
 t0:h0.get? T=none
 ne:T≠e
 ob:∃oe vs,h.get? e=some oe∧oe.cls = .ref C∧oe.data = .fields vs∧vs[1]? = some (.ref T)
 tb:∃oT ts,h.get? T=some oT∧oT.data = .fields ts∧ts[3]? = some .none
def CXE (P:Program) (w:World):CXT:=fun outer H s E ev s'=>∃e C T H',ev = .ref e∧s'.os=s.os∧AllBare s'.gens∧Un (frs outer) [] H H' s.heap s'.heap∧HOk P w H' s'.heap∧H' e=none∧H' T=none∧
 Thrown s.heap s'.heap e C T∧E (.ref C) (dxOf s'.heap e) H'
theorem passE0 {X:Cx} {P:Program} {w:World}:Passes (CXE P w) X E0:=fun _ _ _ _ _ _ _ h=>by
 obtain ⟨_,_,_,_,_,_,_,_,_,_,_,_,z⟩:=h
 exact z.elim
theorem mapF_cls (o:Obj) (f:Array Value→Array Value):(o.mapFields f).dict=o.dict:=by
 obtain ⟨c,d,dt,sl⟩:=o
 cases dt <;> rfl
section
variable {P:Program} {w:World} {K:PySem.W.Frag} {mg:Str→Option Value} {base:Heap} {N:List Str} {qual:Str} {scope:Scope} {f:Addr} {cd:Value} {A:Around} {outer:List Env} {s:Shared} {H:Hp} {E:XK}
theorem frame_own {X:Cx} {pins:List (Addr × Obj)} {σ:St} {H1:Hp} {s1:Shared} (I:Inv X pins σ H1 s1) (he:X.ex=[]) {H2:Hp} {h2:Heap} (u:Un (frs X.stack) [] H1 H2 s1.heap h2):Un X.fs [] X.H₀ H2 X.s₀.heap h2:=by
 have b0:=I.base
 rw [he] at b0
 have sub:∀b∈X.fs,b∈frs X.stack:=fun b hb=>by
  rcases I.ok.stk with e | ⟨e,hf⟩
  ·rw [e]; exact hb
  ·rw [e]; unfold frs; rw [List.filterMap_cons,hf]; exact List.mem_cons_of_mem _ hb
 refine Un.less ((b0.mono sub fun b z=>z).trans u) sub fun b z nb=>?_
 rcases List.mem_cons.mp (I.stkSub b z) with e | z2
 ·rw [e]; exact Heap.get?_none_of_le I.ok.above
 ·exact absurd z2 nb
theorem throw_out {pins:List (Addr × Obj)} {σ:St} {H1 H2:Hp} {s1 s2:Shared} {e C:Addr} {oe:Obj} {vs:Array Value} (I:Inv (cxOf (CXE P w) P w K mg base N qual scope f cd A outer s H E) pins σ H1 s1)
  (os:s2.os=s1.os) (bare:AllBare s2.gens) (un:Un (frs (cxOf (CXE P w) P w K mg base N qual scope f cd A outer s H E).stack) [] H1 H2 s1.heap s2.heap) (hok:HOk P w H2 s2.heap) (he:H2 e=none) (n0:s1.heap.get? e=none)
  (q1:s2.heap.get? e=some oe) (q2:oe.cls = .ref C) (q4:oe.data = .fields vs) (q5:vs[1]? = some .none) (hE:E (.ref C) oe.dict H2):(cxOf (CXE P w) P w K mg base N qual scope f cd A outer s H E).xe (.ref e) s2:=by
 have I2:=I.call' os un hok bare (fun _ z=>nomatch z)
 refine leave_ok I2.ok.frames I2.stack rfl q1 q4 (.inl q5) fun h' T Nt=>?_
 have ne1:∀b o,s1.heap.get? b=some o→b≠e:=fun b o q z=>by rw [z,n0] at q; cases q
 have ne2:∀b:Addr,vs[1]?≠some (.ref b):=fun b z=>by rw [q5] at z; cases z
 have u:Un (frs (cxOf (CXE P w) P w K mg base N qual scope f cd A outer s H E).stack) [] H1 H2 s1.heap h':=
  un.post (fun b o p q n _ r=>Nt.keep b o n (ne1 b p q) (ne2 b) r) (fun b o n r=>Nt.slot b o n r) (fun b o p q r=>by
   by_cases hb:b∈frs (cxOf (CXE P w) P w K mg base N qual scope f cd A outer s H E).stack
   ·obtain ⟨sl,z⟩:=Nt.slot b o hb r
    exact ⟨_,z⟩
   ·exact ⟨o,Nt.keep b o hb (ne1 b p q) (ne2 b) r⟩)
 have hok2:HOk P w H2 h':=HOk.keepT hok fun b o u q r=>Nt.keep b o (fun z=>by rw [I2.stkFree b z] at q; cases q) (fun z=>by rw [z,he] at q; cases q) (ne2 b) r
 have base0:∀{b:Addr},s1.heap.get? b=none→s.heap.get? b=none:=fun {b} q=>by
  cases z:s.heap.get? b with
  | none=>rfl
  | some o=>
   obtain ⟨o',r⟩:=I.base.there b o z (by intro y; exact absurd (show b∈([]:List Addr) from y) (by simp))
   rw [q] at r; cases r
 have t1:s1.heap.get? T=none:=by
  cases z:s1.heap.get? T with
  | none=>rfl
  | some o=>
   obtain ⟨o',r⟩:=un.there T o z (by simp)
   rw [Nt.new] at r; cases r
 refine ⟨e,C,T,H2,rfl,I2.os,bare,frame_own I rfl u,hok2,he,hok.none_of Nt.new,⟨base0 n0,base0 t1,Nt.ne,⟨_,_,Nt.exc,(Obj.cls_mapFields _ _).trans q2,Obj.data_mapFields q4 _,?_⟩,Nt.tb⟩,?_⟩
 ·have z:=(Array.getElem?_eq_some_iff.mp q5).1
  simp [z]
 ·rw [dxOf_of Nt.exc,mapF_cls]
  exact hE
theorem passes_fn {E':XK} (hE:∀c d H,E' c d H→E c d H):Passes (CXE P w) (cxOf (CXE P w) P w K mg base N qual scope f cd A outer s H E) E':=by
 intro pins σ H1 s1 ev s2 I h
 obtain ⟨e,C,T,H2,rfl,os,bare,un,hok,he,hT,⟨n0,t0,ne,⟨oe,vs,q1,q2,q4,q5⟩,⟨oT,ts,r1,r2,r3⟩⟩,hw⟩:=h
 have I2:=I.call' os un hok bare (fun _ z=>nomatch z)
 refine leave_ok I2.ok.frames I2.stack rfl q1 q4 (.inr ⟨T,oT,ts,q5,ne,r1,r2,r3⟩) fun h' T' Nt=>?_
 have ne1:∀b o,s1.heap.get? b=some o→b≠e:=fun b o q z=>by rw [z,n0] at q; cases q
 have ne2:∀b o,s1.heap.get? b=some o→vs[1]?≠some (.ref b):=fun b o q z=>by rw [q5] at z; cases z; rw [t0] at q; cases q
 have u:Un (frs (cxOf (CXE P w) P w K mg base N qual scope f cd A outer s H E).stack) [] H1 H2 s1.heap h':=
  un.post (fun b o p q n _ r=>Nt.keep b o n (ne1 b p q) (ne2 b p q) r) (fun b o n r=>Nt.slot b o n r) (fun b o p q r=>by
   by_cases hb:b∈frs (cxOf (CXE P w) P w K mg base N qual scope f cd A outer s H E).stack
   ·obtain ⟨sl,z⟩:=Nt.slot b o hb r
    exact ⟨_,z⟩
   ·exact ⟨o,Nt.keep b o hb (ne1 b p q) (ne2 b p q) r⟩)
 have hok2:HOk P w H2 h':=HOk.keepT hok fun b o u q r=>Nt.keep b o (fun z=>by rw [I2.stkFree b z] at q; cases q) (fun z=>by rw [z,he] at q; cases q) (fun z=>by rw [q5] at z; cases z; rw [hT] at q; cases q) r
 have base0:∀{b:Addr},s1.heap.get? b=none→s.heap.get? b=none:=fun {b} q=>by
  cases z:s.heap.get? b with
  | none=>rfl
  | some o=>
   obtain ⟨o',r⟩:=I.base.there b o z (by intro y; exact absurd (show b∈([]:List Addr) from y) (by simp))
   rw [q] at r; cases r
 have t1:s1.heap.get? T'=none:=by
  cases z:s1.heap.get? T' with
  | none=>rfl
  | some o=>
   obtain ⟨o',r⟩:=un.there T' o z (by simp)
   rw [Nt.new] at r; cases r
 refine ⟨e,C,T',H2,rfl,I2.os,bare,frame_own I rfl u,hok2,he,hok.none_of Nt.new,⟨base0 n0,base0 t1,Nt.ne,⟨_,_,Nt.exc,(Obj.cls_mapFields _ _).trans q2,Obj.data_mapFields q4 _,?_⟩,Nt.tb⟩,?_⟩
 ·have z:=(Array.getElem?_eq_some_iff.mp q5).1
  simp [z]
 ·rw [dxOf_of Nt.exc,mapF_cls]
  rw [dxOf_of q1] at hw
  exact hE _ _ _ hw
end
abbrev bmV:List Value:=[.type "ValueError",.type "Exception",.type "BaseException",.type "object"]
section
variable {P:Program} {w:World} {K:PySem.W.Frag} {mg:Str→Option Value} {base:Heap}
end
def CXX (X:Cx) (pins:List (Addr × Obj)) (σ:St) (E:XK) (ev:Value) (s':Shared):Prop:=∃H s,Inv X pins σ H s∧CXE X.prog X.w X.stack H s E ev s'
abbrev TEX:=St→Hp→VK→XK→Prop
def PEX (X:Cx) (e:Expr) (t:TEX):Prop:=
 ∀(pins:List (Addr × Obj)) (s:Shared) (σ:St) (H:Hp) (Q:VK) (E:XK),Inv X pins σ H s→t σ H Q E→wpAny (model X.prog X.w) X.A (eval e X.env) (EP X pins σ Q) (CXX X pins σ E) s
abbrev TSX:=Ends→XK→St→Hp→Prop
def PSX (X:Cx) (st:List Stmt) (t:TSX):Prop:=
 ∀(pins:List (Addr × Obj)) (s:Shared) (σ:St) (H:Hp) (D:Ends) (E:XK),Inv X pins σ H s→t D E σ H→wpAny (model X.prog X.w) X.A (execs st X.env) (SP X pins D) (CXX X pins σ E) s
section
variable {X:Cx} {k:Nat} {f:Addr} {fd:FuncData} {ps:List Str} {sp:Sp} {dvs:List V} {ds:List Value} {x:Str} {p pos:Pos} {e:Expr} {es:List Expr} {t:TA}
def tCallX (sp:Sp) (dvs:List V) (t:TA):TEX:=fun σ H Q E=>t σ H fun vs H1=>sp (vs ++ dvs) H1 Q E
theorem pex_call (F:FnOk X.prog X.w X.K X.mg X.base (CXE X.prog X.w) k f fd ps sp) (hr:Room k X.A) (hg:Gl X x) (hm:X.mg x=some (.ref f)) (hk:PySem.W.keepIn X.K (.ref f)=true) (hb:Binds X.K fd ps ds) (hd:Vals dvs ds)
  (ha:PA X.nox (e :: es) t) (hdb:(x == ("__debug__" : Str))=false:=by decide) (he:starEach (e :: es) X.env=(false,eval e X.env) :: starEach es X.env:=by rfl) (hpl:(backTo pos (starEach es X.env)).any (·.1)=false:=by rfl) :
  PEX X (.Call (.Name x p) (e :: es) [] pos) (tCallX sp dvs t):=by
 intro pins s σ H Q E I h
 refine wpAny_Call_Name_kw (ld_glob I hg hm ?_ hdb)
 refine PySem.W.callWith_K (h₀:=X.base) I.ok.mod.kin hk (wpAny_mono (ha pos pins s σ H _ (I.wish _) h) (fun us s1 ⟨vs,H1,I1,r,q⟩=>⟨I1.unwish.kIn,?_⟩) fun _ _ z=>False.elim z) he hpl
 have I1':=I1.unwish
 have r2:Vals (vs ++ dvs) (us ++ ds):=r.append hd
 have hl:(us ++ ds).length=ps.length:=by rw [← r2.length]; exact F.len _ _ _ _ q
 refine wpAny_call (codeAny_mono (F.run X.A X.stack s1 H1 ⟨us,[]⟩ (us ++ ds) (vs ++ dvs) Q E hr I1'.env0 (hb s1 us I1'.kIn hl) r2 q) fun r s' hq=>?_)
 cases r with
 | error ev=>exact ⟨H1,s1,I1',hq⟩
 | ok fl=>
  cases fl with
  | ret u=>exact I1'.after hq
  | next=>exact False.elim hq
  | brk=>exact False.elim hq
  | cont=>exact False.elim hq
theorem psx_expr {te:TEX} (he:PEX X e te) (hs:swapsWith e none pos.line X.env=pure false:=by rfl):PSX X [.Expr e pos] (fun D E σ H=>te σ H (fun _ H1=>D.nx σ H1) E):=by
 intro pins s σ H D E I h
 exact wpAny_execs_cons (wpAny_Expr_any (wpAny_mono (he pins s σ H _ E I h) (fun u s1 ⟨v,H1,I1,r1,q1⟩=>wpAny_execs_nil ⟨σ,H1,I1,q1⟩) fun _ _ z=>z) I.quiet hs)
end
def excAtD (C e:Addr) (d:Option Addr) (h:Heap):Prop:=∃o,h.get? e=some o∧o.cls = .ref C∧o.dict=d∧PySem.W.notCls o=true
abbrev excAt (C e:Addr) (h:Heap):Prop:=excAtD C e none h
def ExcD (C e:Addr) (d:Option Addr):HO:=.ext (excAtD C e d)
abbrev ExcO (C e:Addr):HO:=ExcD C e none
theorem excO_ok {P:Program} {w:World} {H:Hp} {h:Heap} {C e:Addr} {d:Option Addr} (x:excAtD C e d h):ObjOk P w H h e (ExcD C e d):=by
 obtain ⟨o,q⟩:=id x
 exact ⟨x,⟨o,q.1⟩,fun h1 h2 ⟨o,a,b⟩ k=>⟨o,k o a,b⟩⟩
theorem caught_inv {X:Cx} {pins:List (Addr × Obj)} {σ:St} {H H':Hp} {s s':Shared} {e C T L T':Addr} {oe:Obj} {vs:Array Value} {h3:Heap} {d:Option Addr} (I:Inv X pins σ H s) (os:s'.os=s.os) (bare:AllBare s'.gens)
    (un:Un (frs X.stack) [] H H' s.heap s'.heap) (hok:HOk X.prog X.w H' s'.heap) (he:H' e=none) (hT:H' T=none) (n0:s.heap.get? e=none) (t0:s.heap.get? T=none) (q5:vs[1]? = some (.ref T))
    (c1:oe.cls = .ref C) (c2:oe.dict=d) (c3:oe.data = .fields vs) (Nt:Noted (frs X.stack) e L oe vs s'.heap h3 T' .none):Inv X pins σ (upd H' e (ExcD C e d)) {s' with heap:=h3}:=by
  have I2:=I.call' os un hok bare (fun _ z=>nomatch z)
  have ne1:∀b o,s.heap.get? b=some o→b≠e:=fun b o q z=>by rw [z,n0] at q; cases q
  have ne2:∀b o,s.heap.get? b=some o→vs[1]?≠some (.ref b):=fun b o q z=>by rw [q5] at z; cases z; rw [t0] at q; cases q
  have u:Un (frs X.stack) [] H H' s.heap h3:=
    un.post (fun b o p q n _ r=>Nt.keep b o n (ne1 b p q) (ne2 b p q) r) (fun b o n r=>Nt.slot b o n r) (fun b o p q r=>by
      by_cases hb:b∈frs X.stack
      · obtain ⟨sl,z⟩:=Nt.slot b o hb r
        exact ⟨_,z⟩
      · exact ⟨o,Nt.keep b o hb (ne1 b p q) (ne2 b p q) r⟩)
  have hok2:HOk X.prog X.w H' h3:=HOk.keepT hok fun b o u q r=>Nt.keep b o (fun z=>by rw [I2.stkFree b z] at q; cases q) (fun z=>by rw [z,he] at q; cases q) (fun z=>by rw [q5] at z; cases z; rw [hT] at q; cases q) r
  have ne3:∀b u,H' b=some u→b≠e:=fun b u q z=>by rw [z,he] at q; cases q
  have u2:Un (frs X.stack) [] H (upd H' e (ExcD C e d)) s.heap h3:=
    ⟨u.keep,u.slot,fun b o q n hx=>by rw [upd_ne (ne1 b o q)]; exact u.free b o q n hx,u.there,fun b xs q=>by rw [upd_ne (ne3 b _ (u.tups b xs q))]; exact u.tups b xs q,
     fun b o xs q=>by rw [upd_ne (ne3 b _ (u.frzs b o xs q))]; exact u.frzs b o xs q,fun b p q=>by
      obtain ⟨m,z⟩:=u.tbls b p q
      exact ⟨m,by rw [upd_ne (ne3 b _ z)]; exact z⟩⟩
  have ex:excAtD C e d h3:=⟨_,Nt.exc,(Obj.cls_mapFields _ _).trans c1,(mapF_cls _ _).trans c2,by
    unfold PySem.W.notCls
    rw [Obj.data_mapFields c3]⟩
  have hok3:HOk X.prog X.w (upd H' e (ExcD C e d)) h3:=fun b o q=>by
    by_cases hb:b=e
    · subst hb
      rw [upd_same] at q; cases q
      exact excO_ok ex
    · rw [upd_ne hb] at q
      exact (hok2 b o q).stay (fun _ _ _ r=>r) (fun c r=>by rw [upd_ne (ne3 c _ r)]; exact r) fun c xs r=>by rw [upd_ne (ne3 c _ r)]; exact r
  exact I.call' (s':={s' with heap:=h3}) os u2 hok3 bare (fun _ z=>nomatch z)
structure CatchK (K:PySem.W.Frag) (D:Addr):Prop where
 tup:PySem.W.instIn K (.ref D) (.type "tuple")=some false
 cls:(PySem.W.clsIn K D).isSome=true
 exc:PySem.W.mroIn K D (.type "BaseException")=some true
theorem looks_isType {K:PySem.W.Frag} {M:Model} {h:Heap} {D:Addr} (X:K.In h) (c:(PySem.W.clsIn K D).isSome=true):PySem.W.Looks M h (isType (.ref D)) true:=by
 unfold PySem.W.clsIn at c
 split at c
 ·rename_i a b cd sl lk
  intro A Q E s k q
  unfold isType loadHead
  exact wpAny_bind (wpAny_loadPart (k _ _ (X _ _ lk)) (wpAny_pure q))
 ·cases c
theorem matches_ok {K:PySem.W.Frag} {M:Model} {A:Around} {E:Value→Shared→Prop} {s:Shared} {e C D:Addr} {o:Obj} {Q:Bool→Shared→Prop} (X:K.In s.heap) (c:CatchK K D) (sub:PySem.W.mroIn K C (.ref D)=some true)
  (he:s.heap.get? e=some o) (hc:o.cls = .ref C) (h:Q true s):wpAny M A (excMatches (.ref e) (.ref D)) Q E s:=by
 have l1:=PySem.W.looks_instIn (M:=M) X c.tup
 have l2:=looks_isType (M:=M) X c.cls
 have l3:=PySem.W.looks_mroIn (M:=M) X c.exc
 have l4:=PySem.W.looks_mroIn (M:=M) X sub
 obtain ⟨hh,g,d,t,os⟩:=s
 unfold excMatches
 refine wpAny_bind (l1.at ?_)
 simp only [Bool.false_eq_true,if_false,pure_bind,List.forIn_cons,List.forIn_nil]
 refine wpAny_bind (wpAny_bind (wpAny_bind ?_))
 unfold isExcClass
 refine wpAny_bind (l2.at ?_)
 rw [if_pos rfl]
 refine l3.at ?_
 simp only [Bool.not_true,Bool.false_eq_true,if_false]
 refine wpAny_pure (wpAny_pure ?_)
 refine wpAny_bind (wpAny_typeOf_ref he ?_)
 rw [hc]
 refine wpAny_bind (wpAny_bind (wpAny_bind (l4.at ?_)))
 rw [if_pos rfl]
 exact wpAny_pure (wpAny_pure (wpAny_pure h))
theorem Inv.relocal {X:Cx} {pins:List (Addr × Obj)} {σ σ':St} {H:Hp} {s:Shared} {h':Heap} {m':Str→Option Value} {tk:Nat} (I:Inv X pins σ H s) (hs:Heap.SameBut X.env.locals s.heap h') (hn:h'.Ns X.env.locals m')
  (hl:∀(i:Nat) (x:Str) (v:V),X.N[i]? = some x→σ'[i]? = some (some v)→Vis X.env.scope x→∃u,RelV v u∧Look X.env h' m' x u) (len:σ'.length=σ.length):Inv X pins σ' H {s with heap:=h',toks:=tk}:=by
 have neL:∀b o,X.s₀.heap.get? b=some o→b≠X.env.locals:=fun b o e=>Nat.ne_of_lt (Nat.lt_of_lt_of_le (Heap.lt_size e) I.ok.above)
 refine ⟨I.ok,I.os,I.bare,⟨fun b o e n hb hx=>(hs.2 b (neL b o e)).trans (I.base.keep b o e n hb hx),fun b o e n hb hx=>?_,I.base.free,fun b o e hx=>?_,I.base.tups,I.base.frzs,I.base.tbls⟩,⟨m',hn,hl⟩,fun y c e=>?_,I.free,I.freeC,fun p hp=>?_,?_,len.trans I.len⟩
 ·obtain ⟨sl,z⟩:=I.base.slot b o e n hb hx
  exact ⟨sl,(hs.2 b (neL b o e)).trans z⟩
 ·obtain ⟨o',z⟩:=I.base.there b o e hx
  exact ⟨o',(hs.2 b (neL b o e)).trans z⟩
 ·obtain ⟨w',z⟩:=I.cell y c e
  exact ⟨w',z.sameBut hs (I.cne y c e)⟩
 ·obtain ⟨a,b,c,d,f⟩:=I.pin p hp
  exact ⟨(hs.2 p.1 c).trans a,b,c,d,f⟩
 ·exact HOk.keepT I.hok fun b o u q r=>(hs.2 b fun z=>by rw [z,I.free] at q; cases q).trans r
theorem goes_ok {X:Cx} {M:Model} {A:Around} {E:Value→Shared→Prop} {pins:List (Addr × Obj)} {σ:St} {H:Hp} {s:Shared} {j:Nat} {n:Str} {pos:Pos} {Q:Unit→Shared→Prop} (I:Inv X pins σ H s) (hN:X.N.Nodup) (hj:X.N[j]? = some n)
  (hx:X.env.scope.names.lookup n=some .local) (h:∀s',Inv X pins (σ.set j none) H s'→Q () s'):wpAny M A (do bindName X.env n .none; unbindBehindTheSuite X.env n pos) Q E s:=by
 obtain ⟨m,hn,hl⟩:=I.loc
 refine wpAny_nameGoes_keeps hx hn (by rw [I.ok.kind]; rfl) fun h' v hn' hs=>h _ (I.relocal hs hn' (fun i x w e1 e2 e3=>?_) (by simp))
 have hij:i≠j:=fun z=>by
  subst z
  rw [List.getElem?_set] at e2
  simp at e2
 rw [List.getElem?_set_ne (Ne.symm hij)] at e2
 obtain ⟨u,r,q⟩:=hl i x w e1 e2 e3
 refine ⟨u,r,?_⟩
 rcases q with ⟨k,e⟩ | ⟨k,c,e,z⟩
 ·refine .inl ⟨k,?_⟩
  have:x≠n:=fun e=>hij (nodup_ix hN e1 (e ▸ hj))
  simp [this,e]
 ·exact .inr ⟨k,c,e,z.sameBut hs (I.cne x c e)⟩
abbrev Cx.held (X:Cx) (e:Addr):Cx:={X with A:=X.A.mark (some (.ref e)),calm:=false,xe:=fun _ _=>False}
theorem Inv.held {X:Cx} {pins:List (Addr × Obj)} {σ:St} {H:Hp} {s:Shared} (I:Inv X pins σ H s) (e:Addr):Inv (X.held e) pins σ H s:=
 ⟨⟨I.ok.mod,I.ok.kind,I.ok.glob,I.ok.blt,I.ok.above,I.ok.inj,I.ok.has,I.ok.cab,(fun z=>nomatch z),I.ok.frames,I.ok.stk,I.ok.exf,I.ok.bs,I.ok.bsz,I.ok.noex,I.ok.exfs,I.ok.funs,I.ok.frf⟩,I.os,I.bare,I.base,I.loc,I.cell,I.free,I.freeC,I.pin,I.hok,I.len⟩
theorem Inv.unheld {X:Cx} {pins:List (Addr × Obj)} {σ:St} {H:Hp} {s:Shared} {e:Addr} (ok:X.Ok) (I:Inv (X.held e) pins σ H s):Inv X pins σ H s:=⟨ok,I.os,I.bare,I.base,I.loc,I.cell,I.free,I.freeC,I.pin,I.hok,I.len⟩
def Ends.drop (D:Ends) (j:Nat):Ends:={nx:=fun σ H=>D.nx (σ.set j none) H,rt:=D.rt,bk:=fun σ H=>D.bk (σ.set j none) H,ct:=fun σ H=>D.ct (σ.set j none) H}
def tTryAs (K:PySem.W.Frag) (D:Addr) (j:Nat) (tb:TSX) (th:TS):TS:=fun En σ H=>tb En (fun c d H1=>∃C,c = .ref C∧PySem.W.mroIn K C (.ref D)=some true∧∀e,H1 e=none→th (En.drop j) (σ.set j (some (.ref e))) (upd H1 e (ExcD C e d))) σ H
theorem ps_try_as {X:Cx} {body:List Stmt} {tb:TSX} {th:TS} {d n:Str} {D:Addr} {j:Nat} {b0:Stmt} {suite:List Stmt} {pd hpos pos:Pos} (hb:PSX X body tb) (hN:X.N.Nodup) (hj:X.N[j]? = some n) (hx:X.env.scope.names.lookup n=some .local)
  (hst:X.stack=X.env :: X.outer) (hL:X.env.frame=some X.env.locals) (hg:Gl X d) (hm:X.mg d=some (.ref D)) (c:CatchK X.K D) (hs:∀e,PSs (X.held e) (b0 :: suite) th) (hd:(d == ("__debug__" : Str))=false:=by decide) :
  PS X (.Try body [.ExceptHandler (some (.Name d pd)) (some n) (b0 :: suite) hpos] [] [] pos) (tTryAs X.K D j tb th):=by
 intro pins s σ H En I h
 refine wpAny_Try_except (wpAny_mono (hb pins s σ H _ _ I h) (fun f s1 q=>?_) fun ev s1 q=>?_)
 ·cases f with
  | next=>exact wpAny_execs_nil q
  | brk=>exact q
  | cont=>exact q
  | ret v=>exact q
 ·obtain ⟨H0,s0,I0,e,C,T,H1,rfl,os,bare,un,hok,he,hT,⟨n0,t0,ne,⟨oe,vs,q1,q2,q4,q5⟩,⟨oT,ts,r1,r2,r3⟩⟩,C',hC',sub,hw⟩:=q
  cases hC'
  have q3:oe.dict=dxOf s1.heap e:=(dxOf_of q1).symm
  have I1:=I0.call' os un hok bare (fun _ z=>nomatch z)
  have hz:1 < vs.size:=(Array.getElem?_eq_some_iff.mp q5).1
  have fr:X.A.frames=some (X.env :: X.outer):=by rw [← hst]; exact I.ok.frames
  have st1:s1.heap.FunFrames X.base (X.env :: X.outer):=by rw [← hst]; exact I1.stack
  refine note_ok fr st1 hL q1 q4 (.inr ⟨T,oT,ts,q5,ne,r1,r2,r3⟩) fun h1 T' N1=>?_
  have tf:T'∉frs (X.env :: X.outer):=fun z=>by
   obtain ⟨_,o,ho,_⟩:=st1.mem z
   rw [N1.new] at ho; cases ho
  refine land_ok (s:={s1 with heap:=h1}) N1 q4 hz tf fun h2 N2=>?_
  have N2':Noted (frs X.stack) e X.env.locals oe vs s1.heap h2 T' .none:=by rw [hst]; exact N2
  have I2:=caught_inv I0 os bare un hok he hT n0 t0 q5 q2 q3 q4 N2'
  refine wpAny_handleBy_cons (codeAny_handlers_test (ld_glob (I2.held e) hg hm ?_ hd)) (by intro z; cases z)
  refine matches_ok I2.kIn c sub N2.exc ((Obj.cls_mapFields _ _).trans q2) ?_
  show codeAny _ _ _ _ _
  refine codeAny_handlers_suite_as ?_
  refine land_ok (s:={s1 with heap:=h2}) N2 q4 hz tf fun h3 N3=>?_
  have N3':Noted (frs X.stack) e X.env.locals oe vs s1.heap h3 T' .none:=by rw [hst]; exact N3
  have I3:=caught_inv I0 os bare un hok he hT n0 t0 q5 q2 q3 q4 N3'
  refine store_ok I3 hN hj (.inl hx) (v:=.ref e) rfl (fun s4 I4=>?_) (.inr hx)
  refine wpAny_mono (hs e pins s4 _ _ _ (I4.held e) (hw e he)) (fun f s5 q=>?_) fun _ _ z=>False.elim z
  show wpAny _ _ _ _ _ _
  cases f with
  | next=>
   obtain ⟨σ5,H5,I5,q⟩:=q
   exact goes_ok (I5.unheld I.ok) hN hj hx fun s6 I6=>⟨_,_,I6,q⟩
  | brk=>
   obtain ⟨σ5,H5,I5,q⟩:=q
   exact goes_ok (I5.unheld I.ok) hN hj hx fun s6 I6=>⟨_,_,I6,q⟩
  | cont=>
   obtain ⟨σ5,H5,I5,q⟩:=q
   exact goes_ok (I5.unheld I.ok) hN hj hx fun s6 I6=>⟨_,_,I6,q⟩
  | ret u=>
   obtain ⟨v5,σ5,H5,I5,r5,q⟩:=q
   exact goes_ok (I5.unheld I.ok) hN hj hx fun s6 I6=>⟨_,_,_,I6,r5,q⟩
structure ClsX (K:PySem.W.Frag) (C:Addr):Prop where
 ga:PySem.W.findIn K (.ref C) "__getattribute__" = some (some (.builtin "BaseException.__getattribute__"))
 no:PySem.W.findIn K (.ref C) "__getattr__" = some none
 hd:PySem.W.hasDictIn K C=true
 ha:PySem.W.findIn K (.ref C) "__class__" = some (some (.builtin "object.__class__"))
 hn:PySem.W.specialIn K (.builtin "object.__class__") "__get__" = some (some (.builtin "getset_descriptor.__get__"))
 ht:PySem.W.takesIn K (.builtin "object.__class__")=some true
 hm:PySem.W.mroIn K C (.type "object")=some true
 hb:PySem.W.mroIn K C (.type "BaseException")=some true
section
variable {prog:Program} {w:World} {A:Around} {E:Value→Shared→Prop} {K:PySem.W.Frag} {C e:Addr} {ox:Obj} {od:Option Obj}
theorem ga_class {s:Shared} {tk:Tok} {Q:Fin→Shared→Prop} (c:ClsX K C) (X:K.In s.heap) (I:PySem.W.InstAt s.heap e ox C od) (h:Q (.done (.ret (.ref C))) s) :
  wpAny (model prog w) A (Builtin.«object.__getattribute__» ⟨[.ref e,.str "__class__" tk],[]⟩) Q E s:=by
 have hf:PySem.W.findObj K C od "__class__" = some (.bind (.builtin "getset_descriptor.__get__") (.builtin "object.__class__")):=by
  obtain ⟨cd,q,_⟩:=PySem.W.any_some c.hd
  unfold PySem.W.findObj
  rw [q,Option.bind_some,c.ha,Option.bind_some]
  simp [c.hn,c.ht]
 obtain ⟨hh,gg,d,t,os⟩:=s
 have L0:=I.type (M:=model prog w)
 have L1:=PySem.W.looks_find (M:=model prog w) X I hf
 unfold Builtin.«object.__getattribute__»
 repeat (first | with_reducible refine L0.at ?_ | with_reducible refine L1.at ?_ | wp_step)
 exact PySem.W.class_get (ox:=ox) (od:=od) X I c.hm (wpAny_pure h)
theorem ga_check {M:Model} {s:Shared} {nameV:Value} {Q:Unit→Shared→Prop} (c:ClsX K C) (X:K.In s.heap) (I:PySem.W.InstAt s.heap e ox C od) (h:Q () s) :
  wpAny M A (checkBuiltinCall "BaseException.__getattribute__" ⟨[.ref e,nameV],[]⟩) Q E s:=by
 have hk:builtinKind "BaseException.__getattribute__" = some .slot:=by decide +kernel
 have hs:splitId "BaseException.__getattribute__" = some ("BaseException","__getattribute__"):=by decide +kernel
 have ha:=F.args_bexc_ga (.ref e) nameV
 have LI:PySem.W.Looks M s.heap (isInstance (.ref e) (.type "BaseException")) true:=(I.type (M:=M)).andThen (PySem.W.looks_mroIn X c.hb)
 obtain ⟨hh,gg,d,t,os⟩:=s
 simp only [checkBuiltinCall,hk,hs]
 refine wpAny_bind (LI.at ?_)
 repeat (first | assumption | wp_step)
theorem exc_class {s:Shared} {Q:Option Value→Shared→Prop} (c:ClsX K C) (X:K.In s.heap) (I:PySem.W.InstAt s.heap e ox C od) (h:Q (some (.ref C)) {s with toks:=s.toks + 1}) :
  wpAny (model prog w) A (getAttr? (.ref e) "__class__") Q E s:=by
 obtain ⟨hh,gg,d,t,os⟩:=s
 have L0:=I.type (M:=model prog w)
 have L1:=PySem.W.looks_findIn (M:=model prog w) X c.ga
 have L2:=PySem.W.looks_findIn (M:=model prog w) X c.no
 have f3:=PySem.F.attr_ValueError.ga.bind (.ref e)
 unfold getAttr? getAttrBy? getAttrBy
 refine wpAny_bind (wpAny_mkText (wpAny_bind (wpAny_attempt (wpAny_holding (wpAny_bind (L0.at (wpAny_bind (L1.at ?_))))))))
 have e1:(onTheHeap (Value.ref C) && Value.builtin "BaseException.__getattribute__" == Value.builtin "object.__getattribute__")=false:=by rw [show (Value.builtin "BaseException.__getattribute__" == Value.builtin "object.__getattribute__")=false from by decide +kernel,Bool.and_false]
 dsimp only
 rw [e1]
 simp only [Bool.false_eq_true,if_false]
 unfold getAttrByItsOwn hookBefore
 repeat (first | with_reducible refine L2.at ?_ | assumption | wp_step)
 refine codeAny_call_builtin PySem.F.attr_ValueError.ga.plain F.entry_bexc_ga (ga_check c X I (ga_class c X I ?_))
 show wpAny (model prog w) A (handedOut (.ref C)) _ _ _
 exact PySem.W.handed_on rfl (wpAny_pure h)
end
theorem kitx_exc {K:PySem.W.Frag} {C e:Addr} (c:ClsX K C):PySem.W.KitX K (.ref e) (.ref C) (excAt C e) where
 ty:=fun M h _ ⟨o,h1,h2,_⟩=>h2 ▸ (PySem.W.Looks.ld h1).andThen .now
 it:=fun M h X _=>by
  obtain ⟨cd,q,_⟩:=PySem.W.any_some c.hd
  exact looks_isType X (by rw [q]; rfl)
 ne:=fun h tp dd its n sl X htp=>by
  obtain ⟨cd,q,_⟩:=PySem.W.any_some c.hd
  refine Bool.eq_false_iff.mpr fun z=>?_
  have e:C=tp:=Value.ref.inj (beq_iff_eq.mp z)
  subst e
  unfold PySem.W.clsIn at q
  split at q
  ·rename_i lk
   have z:=(X _ _ lk).symm.trans htp
   cases z
  ·cases q
 ca:=fun {prog w A E Q s} X ⟨o,h1,h2,h3,h4⟩ k=>by
  have I:PySem.W.InstAt s.heap e o C none:=⟨h1,h2,h4,by rw [h3]; exact trivial⟩
  exact exc_class c X I k
theorem kitx_excD {K:PySem.W.Frag} {C e d:Addr} (c:ClsX K C):PySem.W.KitX K (.ref e) (.ref C) (fun h=>excAtD C e (some d) h∧∃od,h.get? d=some od) where
 ty:=fun M h _ ⟨⟨o,h1,h2,_⟩,_⟩=>h2 ▸ (PySem.W.Looks.ld h1).andThen .now
 it:=fun M h X _=>by
  obtain ⟨cd,q,_⟩:=PySem.W.any_some c.hd
  exact looks_isType X (by rw [q]; rfl)
 ne:=fun h tp dd its n sl X htp=>(kitx_exc (e:=e) c).ne h tp dd its n sl X htp
 ca:=fun {prog w A E Q s} X ⟨⟨o,h1,h2,h3,h4⟩,od,hod⟩ k=>by
  have I:PySem.W.InstAt s.heap e o C (some od):=⟨h1,h2,h4,by rw [h3]; exact hod⟩
  exact exc_class c X I k
inductive TyX (K:PySem.W.Frag) (H:Hp):V→Value→Prop where
 | of {x:V} {t:Value} (h:TyOf K H x t):TyX K H x t
 | exc {C e:Addr} (h:H e=some (ExcO C e)) (c:ClsX K C):TyX K H (.ref e) (.ref C)
 | excD {C e d:Addr} {fs:List (Str × V)} (h:H e=some (ExcD C e (some d))) (hd:H d=some (.xd fs)) (c:ClsX K C):TyX K H (.ref e) (.ref C)
def clsV:V→Option Value
 | .ty n=>some (.type n)
 | .ref a=>some (.ref a)
 | _=>none
theorem clsV_rel {c:V} {u cv:Value} (h:clsV c=some cv) (r:RelV c u):u=cv:=by
 cases c with
 | ty n=>cases h; exact r
 | ref a=>cases h; exact r
 | _=>cases h
theorem clsV_all:∀{xs:List V} {us cs:List Value},Vals xs us→xs.map clsV=cs.map some→us=cs
 | _,_,[],.nil,_=>rfl
 | _,_,_ :: _,.nil,h=>by simp at h
 | _,_,[],.cons _ _,h=>by simp at h
 | _,_,c :: cs,.cons r t,h=>by
  simp only [List.map_cons,List.cons.injEq] at h
  rw [clsV_rel h.1 r,clsV_all t h.2]
section
variable {X:Cx}
def rIsi (K:PySem.W.Frag):List V→Hp→VK→Prop:=fun vs H Q=>∃x c t b,vs=[x,c]∧TyX K H x t∧((∃cv,clsV c=some cv∧PySem.W.kitOne K t cv=some b)∨∃p xs cs,c = .ref p∧SqT K H p xs∧xs.map clsV=cs.map some∧PySem.W.kitAny K t cs=some b)∧Q (.bl b) H
theorem kitx_of {pins:List (Addr × Obj)} {σ:St} {H:Hp} {s:Shared} {x:V} {t u:Value} (I:Inv X pins σ H s) (rx:RelV x u) (ty:TyX X.K H x t):∃HH,PySem.W.KitX X.K u t HH∧HH s.heap∧u≠.builtin "__main__.__loader__#opaque":=by
 cases ty with
 | exc h c=>
  cases (show u=_ from rx)
  obtain ⟨p,_⟩:=I.hok _ _ h
  exact ⟨_,kitx_exc c,p,fun z=>nomatch z⟩
 | excD h hd c=>
  cases (show u=_ from rx)
  obtain ⟨p,_⟩:=I.hok _ _ h
  obtain ⟨_,⟨od,_,_,q,_⟩,_⟩:=I.hok _ _ hd
  exact ⟨_,kitx_excD c,⟨p,od,q⟩,fun z=>nomatch z⟩
 | of ty=>
  cases ty with
  | non=>cases (show u=Value.none from rx); exact ⟨_,PySem.W.kitx_none,trivial,fun z=>nomatch z⟩
  | bl y=>cases (show u=Value.bool y from rx); exact ⟨_,PySem.W.kitx_bool,trivial,fun z=>nomatch z⟩
  | int i=>obtain ⟨t,q⟩:=(show ∃t,u=Value.int i t from rx); cases q; exact ⟨_,PySem.W.kitx_int,trivial,fun z=>nomatch z⟩
  | str y=>obtain ⟨t,q⟩:=(show ∃t,u=Value.str y t from rx); cases q; exact ⟨_,PySem.W.kitx_str,trivial,fun z=>nomatch z⟩
  | flt y=>obtain ⟨t,q⟩:=(show ∃t,u=Value.float y t from rx); cases q; exact ⟨_,PySem.W.kitx_float,trivial,fun z=>nomatch z⟩
  | @lst a xs ea=>
   cases (show u=Value.ref a from rx)
   obtain ⟨_,_,n,_,h1⟩:=(show ObjOk X.prog X.w H s.heap a (.lst xs) from I.hok a _ ea)
   exact ⟨_,PySem.W.kitx_list,⟨_,h1,rfl⟩,fun z=>nomatch z⟩
  | @frz a ob xs ea=>
   cases (show u=Value.ref a from rx)
   obtain ⟨_,_,_,n,_,h1⟩:=(show ObjOk X.prog X.w H s.heap a (.frz ob (.lst xs)) from I.hok a _ ea)
   exact ⟨_,PySem.W.kitx_list,⟨_,h1,rfl⟩,fun z=>nomatch z⟩
  | @tup a xs ea=>
   cases (show u=Value.ref a from rx)
   obtain ⟨_,_,_,p⟩:=(show ObjOk X.prog X.w H s.heap a (.tup xs) from I.hok a _ ea)
   obtain ⟨o,h1,h2,_⟩:=p
   exact ⟨_,PySem.W.kitx_tuple,⟨o,h1,h2⟩,fun z=>nomatch z⟩
  | @dK a kvs ea=>
   cases (show u=Value.ref a from rx)
   obtain ⟨_,_,vs,_,p⟩:=(show ObjOk X.prog X.w H s.heap a (.dK kvs) from I.hok a _ ea)
   obtain ⟨o,es,ep,h1,h2,_⟩:=p
   exact ⟨_,PySem.W.kitx_dict,⟨o,h1,h2.1⟩,fun z=>nomatch z⟩
  | @dT a kvs ea=>
   cases (show u=Value.ref a from rx)
   obtain ⟨_,_,xs,_,o,es,ep,h1,h2,_⟩:=(show ObjOk X.prog X.w H s.heap a (.dT kvs) from I.hok a _ ea)
   exact ⟨_,PySem.W.kitx_dict,⟨o,h1,h2.1⟩,fun z=>nomatch z⟩
  | @ins a C dx fs ea cl ha hn htk hm=>
   cases (show u=Value.ref a from rx)
   obtain ⟨mA,O,_⟩:=ins_get I.hok ea
   obtain ⟨od,J,_⟩:=O.look
   exact ⟨_,PySem.W.kitx_own (cl.get _) cl.hd ha hn htk hm,J,fun z=>nomatch z⟩
theorem call_isi:CallR X (.builtin "isinstance") (rIsi X.K):=by
 intro pins s σ H xs us Q I r h
 obtain ⟨x,c,t,b,rfl,ty,hc,q⟩:=h
 obtain ⟨u,v,rfl,rx,rc⟩:=vals2 r
 obtain ⟨HH,Z,p,hx⟩:=kitx_of I rx ty
 rcases hc with ⟨cv,e1,e2⟩ | ⟨a,xs,cs,rfl,hs,e1,e2⟩
 ·rw [clsV_rel e1 rc]
  exact PySem.W.kia_one Z I.kIn p e2 hx fun tk=>⟨.bl b,H,I.tok tk,rfl,q⟩
 ·cases (show v=Value.ref a from rc)
  obtain ⟨its,rv,⟨o,h1,h2,n,h3⟩,_⟩:=I.tuple hs
  have e3:=clsV_all rv e1
  subst e3
  obtain ⟨oc,od,oda,osl⟩:=o
  simp only at h2 h3
  subst h2 h3
  exact PySem.W.kia_tup Z I.kIn p h1 e2 hx fun tk=>⟨.bl b,H,I.tok tk,rfl,q⟩
theorem boot_isi:bootBuiltins "isinstance" = some (.builtin "isinstance"):=by decide +kernel
end
theorem Inv.above {X:Cx} {pins:List (Addr × Obj)} {σ:St} {H:Hp} {s:Shared} (I:Inv X pins σ H s):sysModules < s.heap.objs.size:=by
 have h:mainGlobals < s.heap.objs.size:=(I.mod.glob.keeps I.bk).lt
 exact Nat.lt_trans (by decide) h
def tDict0:TE:=fun _ H Q=>∀p,H p=none→Q (.ref p) (upd H p (.dK []))
theorem pe_dict0 {X:Cx} {pos:Pos}:PE X (.Dict [] [] pos) tDict0:=fun pins s σ H Q I h=>by
 have new:ObjOk X.prog X.w (upd H s.heap.objs.size (.dK [])) (s.heap.push {cls:=.type "dict",data:=.dict #[]}) s.heap.objs.size (.dK []):=
  ⟨Nat.zero_le _,beq_eq_false_iff_ne.mpr (Ne.symm (Nat.ne_of_lt I.above)),[],.nil,Heap.DictOf.new s.heap⟩
 exact wpAny_Dict_empty ⟨.ref s.heap.objs.size,_,I.laid (a:=s.heap.objs.size) (o:=.dK []) (t':=s.toks) (fun _ _ q=>Heap.get?_push_of_some _ q) (Nat.le_refl _) new,rfl,h _ (I.hok.fresh (Nat.le_refl _))⟩
section
variable {X:Cx}
end
def clOf (env:Env):List (Str × NameKind)→List (Str × Addr)→List (Str × Addr)
 | [],cs=>cs
 | (n,k) :: r,cs=>clOf env r (if (k == .free)=true then (n,(env.cells.lookup n).getD 0) :: cs else cs)
theorem clOf_run {env:Env}:∀{names:List (Str × NameKind)} {cs:List (Str × Addr)},(∀y∈names,y.2 = .free→(env.cells.lookup y.1).isSome=true)→
  (forIn names cs fun (x:Str × NameKind) (r:List (Str × Addr))=>if (x.2 == .free)=true then (do let c ← cellOf env x.1; pure (ForInStep.yield ((x.1,c) :: r))) else pure (ForInStep.yield r):Sem (List (Str × Addr)))=pure (clOf env names cs)
 | [],cs,_=>rfl
 | (n,k) :: r,cs,h=>by
  have ih:=fun cs'=>clOf_run (env:=env) (names:=r) (cs:=cs') fun y hy=>h y (List.mem_cons_of_mem _ hy)
  rw [List.forIn_cons]
  by_cases hk:(k == NameKind.free)=true
  ·have hs:=h (n,k) List.mem_cons_self (by simpa using hk)
   obtain ⟨c,hc⟩:=Option.isSome_iff_exists.mp hs
   have e:cellOf env n=pure c:=by unfold cellOf; rw [show env.cells.lookup n=some c from hc]
   simp only [hk,if_true,e,clOf]
   rw [show env.cells.lookup n=some c from hc]
   exact ih _
  ·simp only [hk,clOf]
   exact ih _
theorem closure_eq {scope:Scope} {env:Env} (h:∀y∈scope.names,y.2 = .free→(env.cells.lookup y.1).isSome=true):closureFor scope env=pure (clOf env scope.names []):=by
 have e:=clOf_run (env:=env) (cs:=[]) h
 unfold closureFor
 simp only [e]
 rfl
theorem clOf_sub {env:Env} {x:Str} {c:Addr}:∀{names:List (Str × NameKind)} {cs:List (Str × Addr)},(clOf env names cs).lookup x=some c→cs.lookup x=some c∨((x,NameKind.free)∈names∧(env.cells.lookup x).getD 0=c)
 | [],cs,h=>.inl h
 | (n,k) :: r,cs,h=>by
  unfold clOf at h
  rcases clOf_sub (names:=r) h with z | ⟨z1,z2⟩
  ·by_cases hk:(k == NameKind.free)=true
   ·rw [if_pos hk] at z
    rw [List.lookup_cons] at z
    cases hx:x == n with
    | true=>
     rw [hx] at z
     have e:x=n:=by simpa using hx
     subst e
     have ek:k = .free:=by simpa using hk
     subst ek
     exact .inr ⟨List.mem_cons_self,Option.some.inj z⟩
    | false=>rw [hx] at z; exact .inl z
   ·rw [if_neg hk] at z
    exact .inl z
  ·exact .inr ⟨List.mem_cons_of_mem _ z1,z2⟩
theorem clOf_keep {env:Env} {x:Str}:∀{names:List (Str × NameKind)} {cs:List (Str × Addr)},cs.lookup x=some ((env.cells.lookup x).getD 0)→(clOf env names cs).lookup x=some ((env.cells.lookup x).getD 0)
 | [],cs,h=>h
 | (n,k) :: r,cs,h=>by
  unfold clOf
  refine clOf_keep (names:=r) ?_
  by_cases hk:(k == NameKind.free)=true
  ·rw [if_pos hk,List.lookup_cons]
   cases hx:x == n with
   | true=>
    have e:x=n:=by simpa using hx
    subst e
    rfl
   | false=>exact h
  ·rw [if_neg hk]; exact h
theorem clOf_has {env:Env} {x:Str}:∀{names:List (Str × NameKind)} {cs:List (Str × Addr)},(x,NameKind.free)∈names→(clOf env names cs).lookup x=some ((env.cells.lookup x).getD 0)
 | [],cs,h=>nomatch h
 | (n,k) :: r,cs,h=>by
  unfold clOf
  rcases List.mem_cons.mp h with z | z
  ·cases z
   refine clOf_keep (names:=r) ?_
   rw [if_pos (by rfl),List.lookup_cons]
   simp
  ·exact clOf_has (names:=r) z
theorem mem_of_look {x:Str} {k:NameKind}:∀{names:List (Str × NameKind)},names.lookup x=some k→(x,k)∈names
 | [],h=>nomatch h
 | (n,k') :: r,h=>by
  rw [List.lookup_cons] at h
  cases hx:x == n with
  | true=>
   rw [hx] at h
   have e:x=n:=by simpa using hx
   subst e
   cases h
   exact List.mem_cons_self
  | false=>rw [hx] at h; exact List.mem_cons_of_mem _ (mem_of_look h)
theorem relabel_look {env:Env} {x:Str} {k':NameKind}:∀{names:List (Str × NameKind)},
  (names.map fun (n,k)=>if (k == NameKind.free && env.scope.kind == .function && env.kindOf n == some .cell) then (n,NameKind.cell) else (n,k)).lookup x=some k'→∃k,names.lookup x=some k∧(k'=k∨(k = .free∧k' = .cell))
 | [],h=>nomatch h
 | (n,k) :: r,h=>by
  rw [List.map_cons] at h
  by_cases hc:(k == NameKind.free && env.scope.kind == .function && env.kindOf n == some .cell)=true
  ·simp only [hc,if_true] at h
   rw [List.lookup_cons] at h ⊢
   cases hx:x == n with
   | true=>
    rw [hx] at h
    cases h
    have ek:k = .free:=by
     rw [Bool.and_eq_true,Bool.and_eq_true] at hc
     simpa using hc.1.1
    exact ⟨k,rfl,.inr ⟨ek,rfl⟩⟩
   | false=>rw [hx] at h; exact relabel_look h
  ·simp only [hc,Bool.false_eq_true,if_false] at h
   rw [List.lookup_cons] at h ⊢
   cases hx:x == n with
   | true=>rw [hx] at h; exact ⟨k',h,.inl rfl⟩
   | false=>rw [hx] at h; exact relabel_look h
theorem relabel_free {env:Env} {x:Str}:∀{names:List (Str × NameKind)},names.lookup x=some .free→
  (names.map fun (n,k)=>if (k == NameKind.free && env.scope.kind == .function && env.kindOf n == some .cell) then (n,NameKind.cell) else (n,k)).lookup x=some .cell∨
  (names.map fun (n,k)=>if (k == NameKind.free && env.scope.kind == .function && env.kindOf n == some .cell) then (n,NameKind.cell) else (n,k)).lookup x=some .free
 | [],h=>nomatch h
 | (n,k) :: r,h=>by
  rw [List.map_cons]
  rw [List.lookup_cons] at h
  by_cases hc:(k == NameKind.free && env.scope.kind == .function && env.kindOf n == some .cell)=true
  ·simp only [hc,if_true,List.lookup_cons]
   cases hx:x == n with
   | true=>exact .inl rfl
   | false=>rw [hx] at h; exact relabel_free h
  ·simp only [hc,Bool.false_eq_true,if_false,List.lookup_cons]
   cases hx:x == n with
   | true=>rw [hx] at h; cases h; exact .inr rfl
   | false=>rw [hx] at h; exact relabel_free h
def blk (X:Cx) (scope:Scope) (N:List Str) (s:Shared) (H:Hp) (fp:List Addr):Cx:=
 {X with N:=N,s₀:=s,H₀:=H,env:=compEnvC scope (clOf X.env scope.names []) s.heap.objs.size X.env,outer:=X.stack,stack:=X.stack,ex:=fp,fn:=fun _=>false,pn:=[],xe:=fun _ _=>False}
structure BlkOk (esc scope:Scope) (N:List Str) (fi:List Nat):Prop where
 kind:scope.kind = .function
 nocell:∀y∈scope.names,y.2≠.cell
 loc:∀y∈scope.names,y.2 = .local→scope.names.lookup y.1=some .local
 free:∀y∈scope.names,y.2 = .free→esc.names.lookup y.1=some .cell∨esc.names.lookup y.1=some .free
 ix:∀i∈fi,scope.names.lookup (N.getD i "")=some .free
def nB (N os:List Str) (fi:List Nat):List Str:=os ++ fi.map fun i=>N.getD i ""
def sB (σ:St) (os:List Str) (fi:List Nat):St:=os.map (fun _=>none) ++ fi.map fun i=>(σ[i]?).join
section
variable {X:Cx} {pins:List (Addr × Obj)} {σ:St} {H:Hp} {s:Shared} {scope esc:Scope} {os:List Str} {fi:List Nat} {fp:List Addr}
theorem blk_cells (B:BlkOk esc scope X.N fi) (he:X.env.scope=esc) (I:Inv X pins σ H s):∀y∈scope.names,y.2 = .free→(X.env.cells.lookup y.1).isSome=true:=fun y hy hf=>by
 have k:=B.free y hy hf
 rw [← he] at k
 obtain ⟨c,e⟩:=I.ok.has y.1 k
 rw [e]; rfl
theorem blk_cl (B:BlkOk esc scope X.N fi) (he:X.env.scope=esc) (I:Inv X pins σ H s) {x:Str} {c:Addr} (h:(clOf X.env scope.names []).lookup x=some c):X.env.cells.lookup x=some c:=by
 rcases clOf_sub h with z | ⟨z1,z2⟩
 ·cases z
 ·obtain ⟨d,e⟩:=Option.isSome_iff_exists.mp (blk_cells B he I _ z1 rfl)
  rw [show X.env.cells.lookup x=some d from e] at z2 ⊢
  rw [← z2]; rfl
theorem blk_ok (B:BlkOk esc scope X.N fi) (he:X.env.scope=esc) (I:Inv X pins σ H s) (hf:∀b∈fp,FpOk X pins H b) (ho:∀b∈fp,∃o,s.heap.get? b=some o):(blk X scope (nB X.N os fi) s H fp).Ok where
 mod:=I.ok.mod
 kind:=B.kind
 glob:=I.ok.glob
 blt:=I.ok.blt
 above:=Nat.le_refl _
 inj:=fun x y c h1 h2=>I.ok.inj x y c (blk_cl B he I h1) (blk_cl B he I h2)
 has:=fun x h=>by
  have q:∃k,scope.names.lookup x=some k∧(k = .cell∨k = .free):=by
   rcases h with h | h
   ·obtain ⟨k,e,z | ⟨z,_⟩⟩:=relabel_look h
    ·exact ⟨k,e,.inl z.symm⟩
    ·exact ⟨k,e,.inr z⟩
   ·obtain ⟨k,e,z | ⟨_,z⟩⟩:=relabel_look h
    ·exact ⟨k,e,.inr z.symm⟩
    ·cases z
  obtain ⟨k,e,z | z⟩:=q
  ·subst z; exact absurd rfl (B.nocell _ (mem_of_look e))
  ·subst z; exact ⟨_,clOf_has (mem_of_look e)⟩
 cab:=fun x c h _=>nomatch h
 hd:=I.ok.hd
 frames:=I.ok.frames
 stk:=.inl rfl
 exf:=fun b hb=>by
  obtain ⟨o,e⟩:=ho b hb
  exact ⟨Nat.ne_of_lt (Heap.lt_size e),fun x c h=>(hf b hb).2.2.2.2.1 x c (blk_cl B he I h)⟩
 bs:=I.bs
 bsz:=Nat.le_trans I.ok.bsz I.sz
 noex:=fun b o e hb=>by
  rcases (hf b hb).2.2.2.1 with z | z
  ·exact I.ok.noex b o e z
  ·exact absurd (Nat.lt_of_lt_of_le (Heap.lt_size e) (Nat.le_trans I.ok.bsz z)) (Nat.lt_irrefl _)
 exfs:=fun b hb z=>by
  rcases List.mem_cons.mp (I.stkSub b z) with e | e
  ·exact (hf b hb).2.1 e
  ·exact (hf b hb).2.2.1 e
 funs:=I.stack
 frf:=I.stkFree
theorem blk_inv {h1:Heap} {t1:Nat} {m1:Str→Option Value} (B:BlkOk esc scope X.N fi) (he:X.env.scope=esc) (I:Inv X pins σ H s) (hf:∀b∈fp,FpOk X pins H b) (ho:∀b∈fp,∃o,s.heap.get? b=some o)
  (k:∀b o,s.heap.get? b=some o→h1.get? b=some o) (hn:h1.Ns s.heap.objs.size m1):Inv (blk X scope (nB X.N os fi) s H fp) [] (sB σ os fi) H {s with heap:=h1,toks:=t1} where
 ok:=blk_ok B he I hf ho
 os:=rfl
 bare:=I.bare
 base:=Un.kept k
 loc:=by
  refine ⟨m1,hn,fun j x v e1 e2 e3=>?_⟩
  have hj:os.length≤j:=by
   by_cases hj:j < os.length
   ·have z:(sB σ os fi)[j]? = some (some v):=e2
    unfold sB at z
    rw [List.getElem?_append_left (by simpa using hj),List.getElem?_map] at z
    cases q:os[j]? with
    | none=>rw [q] at z; cases z
    | some _=>rw [q] at z; cases z
   ·omega
  have z1:(nB X.N os fi)[j]? = some x:=e1
  have z2:(sB σ os fi)[j]? = some (some v):=e2
  unfold nB at z1
  unfold sB at z2
  rw [List.getElem?_append_right hj,List.getElem?_map] at z1
  rw [List.getElem?_append_right (by simpa using hj),List.length_map,List.getElem?_map] at z2
  cases q:fi[j - os.length]? with
  | none=>rw [q] at z1; cases z1
  | some i=>
   rw [q] at z1 z2
   have w1:X.N.getD i "" = x:=Option.some.inj z1
   have w2:(σ[i]?).join=some v:=Option.some.inj z2
   have w3:σ[i]? = some (some v):=by
    cases p:σ[i]? with
    | none=>rw [p] at w2; cases w2
    | some y=>rw [p] at w2; exact congrArg some w2
   have lx:scope.names.lookup x=some .free:=by rw [← w1]; exact B.ix i (List.mem_of_getElem? q)
   have li:i < X.N.length:=by rw [← I.len]; exact (List.getElem?_eq_some_iff.mp w3).1
   have w4:X.N[i]? = some x:=by
    rw [List.getD_eq_getElem?_getD,List.getElem?_eq_getElem li] at w1
    rw [List.getElem?_eq_getElem li]
    exact congrArg some w1
   have kx:=B.free _ (mem_of_look lx) rfl
   rw [← he] at kx
   obtain ⟨m,hm,hl⟩:=I.loc
   obtain ⟨u,r,l⟩:=hl i x v w4 w3 (by rcases kx with kx | kx; exact .inr (.inl kx); exact .inr (.inr kx))
   refine ⟨u,r,.inr ⟨relabel_free lx,?_⟩⟩
   rcases l with ⟨a,_⟩ | ⟨_,c,e,ic⟩
   ·rcases kx with kx | kx <;> rw [show X.env.kindOf x=X.env.scope.names.lookup x from rfl,kx] at a <;> cases a
   ·refine ⟨c,?_,?_⟩
    ·have:=clOf_has (env:=X.env) (cs:=[]) (mem_of_look lx)
     rw [e] at this
     exact this
    ·obtain ⟨o,ho,hd⟩:=ic
     exact ⟨o,k _ o ho,hd⟩
 cell:=fun x c h=>by
  obtain ⟨v,o,ho,hd⟩:=I.cell x c (blk_cl B he I h)
  exact ⟨v,o,k _ o ho,hd⟩
 free:=I.hok.fresh (Nat.le_refl _)
 freeC:=fun x c h=>I.freeC x c (blk_cl B he I h)
 pin:=fun p hp=>nomatch hp
 hok:=I.hok.kept k
 len:=by
  show (sB σ os fi).length=(nB X.N os fi).length
  unfold sB nB
  simp
theorem blk_out {N:List Str} {s':Shared} {H':Hp} {σ':St} {pins':List (Addr × Obj)} {h':Heap} (I:Inv X pins σ H s) (hf:∀b∈fp,FpOk X pins H b) (I':Inv (blk X scope N s H fp) pins' σ' H' s') (sb:Heap.SameBut s.heap.objs.size s'.heap h') :
  Inv X pins σ H' {s' with heap:=h'}:=by
 have ne:∀b o,s.heap.get? b=some o→b≠s.heap.objs.size:=fun b o e=>Nat.ne_of_lt (Heap.lt_size e)
 have un:Un (frs X.stack) fp H H' s.heap h':=by
  have u:Un (frs X.stack) fp H H' s.heap s'.heap:=I'.base
  exact ⟨fun b o e n hb hx=>(sb.2 b (ne b o e)).trans (u.keep b o e n hb hx),fun b o e n hb hx=>by
    obtain ⟨sl,q⟩:=u.slot b o e n hb hx
    exact ⟨sl,(sb.2 b (ne b o e)).trans q⟩,u.free,fun b o e hx=>by
    obtain ⟨o',q⟩:=u.there b o e hx
    exact ⟨o',(sb.2 b (ne b o e)).trans q⟩,u.tups,u.frzs,u.tbls⟩
 have hok:HOk X.prog X.w H' h':=fun b ob e=>by
  have fr:H' s.heap.objs.size=none:=I'.free
  refine (I'.hok b ob e).stay (fun c w' hc q=>(sb.2 c ?_).trans q) (fun _ q=>q) fun _ _ q=>q
  rintro rfl
  rcases hc with rfl | hc
  ·rw [fr] at e; cases e
  ·rw [fr] at hc; cases hc
 obtain ⟨hh,g,d,t,os'⟩:=s'
 obtain rfl:os'=s.os:=I'.os
 have J:=I.call (h':=h') (g':=g) (d':=d) (t':=t) (ch:=fp) un hok I'.bare fun b hb=>⟨(hf b hb).2.2.2.1,(hf b hb).2.1,(hf b hb).2.2.2.2.1,(hf b hb).2.2.2.2.2⟩
 exact J
end
abbrev F0:Value→Shared→Prop:=fun _ _=>False
theorem of_F0 {α:Type} {M:Model} {A:Around} {t:Sem α} {Q Q':α→Shared→Prop} {E:Value→Shared→Prop} {s:Shared} (h:wpAny M A t Q F0 s) (hQ:∀a s,Q a s→Q' a s):wpAny M A t Q' E s:=wpAny_mono h hQ fun _ _ z=>z.elim
def PTs (X:Cx) (ifs:List Expr) (t:TT):Prop:=
 ∀(pins:List (Addr × Obj)) (s:Shared) (σ:St) (H:Hp) (Q:Bool→Hp→Prop),Inv X pins σ H s→t σ H Q→
  wpAny (model X.prog X.w) X.A (forIn ifs true fun e b=>if b=true then (do let y ← isTrue e X.env (eval e X.env); pure (ForInStep.yield y)) else pure (ForInStep.yield b)) (TP X pins σ Q) X.xe s
theorem pts_nil {X:Cx}:PTs X [] (fun _ H Q=>Q true H):=fun _ _ _ H _ I h=>wpAny_pure ⟨H,I,h⟩
theorem pts_one {X:Cx} {e:Expr} {t:TT} (h:PT X e t):PTs X [e] t:=by
 intro pins s σ H Q I q
 rw [List.forIn_cons]
 simp only [if_true]
 exact wpAny_bind (wpAny_bind (thn (h pins s σ H Q I q) fun y s1 z=>wpAny_pure (wpAny_pure z)))
theorem comp_loop {P:Program} {w:World} {A:Around} {elt tg iter:Expr} {ifs:List Expr} {scope:Scope} {pos:Pos} {it acc:Value} {env:Env} {R:Result→Shared→Prop} {s:Shared} (I:Nat→Shared→Prop)
  (turn:∀n s,I n s→wpAny (model P w) A (pyNext it) (fun r s1=>match r with
   | none=>R (.ok .next) s1
   | some v=>wpAny (model P w) A (letOwnedTupleGo tg it v) (fun _ s2=>wpAny (model P w) A (assign tg env v) (fun _ s3=>
     wpAny (model P w) A (forIn ifs true fun e b=>if b=true then (do let y ← isTrue e env (eval e env); pure (ForInStep.yield y)) else pure (ForInStep.yield b)) (fun ok s4=>
      if ok=true then wpAny (model P w) A (eval elt env) (fun x s5=>wpAny (model P w) A (call (.builtin "list.append") [acc,x]) (fun _ s6=>∃m,m < n∧I m s6) F0 s5) F0 s4
      else ∃m,m < n∧I m s4) F0 s3) F0 s2) F0 s1) F0 s)
  (n:Nat) (h:I n s):codeAny (model P w) A (.compLoop (.ListComp elt [⟨tg,iter,ifs,0⟩] scope pos) 0 it acc env) R s:=by
 refine codeAny_loop rfl I (fun n s hI=>?_) n h
 show wpAny _ A ((compTurn (.ListComp elt [⟨tg,iter,ifs,0⟩] scope pos) 0 it acc env).onRaise (fun x=>do noteFrame x env; theTreesLotGoes x)) _ _ s
 refine wpAny_noted ?_
 rw [compTurn_list]
 refine wpAny_bind (wpAny_standAt (wpAny_bind (of_F0 (turn n s hI) fun r s1 h1=>?_)))
 cases r with
 | none=>exact wpAny_pure h1
 | some v=>
  refine wpAny_bind (of_F0 h1 fun _ s2 h2=>wpAny_bind (of_F0 h2 fun _ s3 h3=>wpAny_bind (of_F0 h3 fun ok s4 h4=>?_)))
  cases ok with
  | false=>exact wpAny_pure ⟨rfl,h4⟩
  | true=>exact wpAny_bind (wpAny_bind (of_F0 h4 fun x s5 h5=>wpAny_bind (of_F0 h5 fun _ s6 h6=>wpAny_pure (wpAny_pure ⟨rfl,h6⟩))))
def LCr (l:Addr) (J:It) (g:TG) (tt:TT) (te:TE) (σb:St) (H:Hp) (Q:VK):Prop:=∃W:Nat→Nat→St→Hp→Prop,(∃m,W 0 m σb H)∧∀i m σ2 H2,W i m σ2 H2→
 (J.stop i H2∧Q (.ref l) H2)∨(J.go i H2∧∀x H3,J.yld i H2 x H3→g x σ2 H3 fun σ4 H4=>tt σ4 H4 fun ok H5=>
  if ok=true then te σ4 H5 fun v H6=>∃xs,H6 l=some (.lst xs)∧xs.length < sizeLine∧∃m',m' < m∧W (i + 1) m' σ4 (upd H6 l (.lst (xs ++ [v]))) else ∃m',m' < m∧W (i + 1) m' σ4 H5)
def tLC (os:List Str) (fi:List Nat) (wi:TI) (g:TG) (tt:TT) (te:TE):TE:=fun σ H Q=>wi σ H fun J H1=>∀l,H1 l=none→LCr l J g tt te (sB σ os fi) (upd H1 l (.lst [])) Q
section
variable {X:Cx} {tg iter elt:Expr} {ifs:List Expr} {scope esc:Scope} {pos:Pos} {N os:List Str} {fi:List Nat} {wi:TI} {g:TG} {tt:TT} {te:TE}
theorem comp_core {pins:List (Addr × Obj)} {σ:St} {H:Hp} {s:Shared} {E:Value→Shared→Prop} {it:Addr} {fp:List Addr} {tn:Nat→Heap→Prop} {J:It} {Q:VK} {RR:Value→Addr→Result→Shared→Prop} (hc:X.calm=true) (hN:X.N=N) (he:X.env.scope=esc) (B:BlkOk esc scope N fi)
  (hg:∀s H fp,PG (blk X scope (nB N os fi) s H fp) tg g) (ht:∀s H fp,PTs (blk X scope (nB N os fi) s H fp) ifs tt) (hel:∀s H fp,PE (blk X scope (nB N os fi) s H fp) elt te)
  (I:Inv X pins σ H s) (T:Turn X.prog X.w X.K tg J fp it tn) (st:tn 0 s.heap) (hf:∀b∈fp,FpOk X pins H b) (q:∀l,H l=none→LCr l J g tt te (sB σ os fi) (upd H l (.lst [])) Q)
  (hRR:∀D s3 H3 s' σ' H',Inv X pins σ H3 s3→(∀b∈fp,FpOk X pins H3 b)→Inv (blk X scope (nB N os fi) s3 H3 fp) [] σ' H' s'→Q (.ref D) H'→RR (.ref D) s3.heap.objs.size (.ok .next) s') :
  wpAny (model X.prog X.w) X.A (newList []) (fun acc s3=>wpAny (model X.prog X.w) X.A (newFunctionEnv scope X.env.globals (clOf X.env scope.names []) [] X.env.qual none .none (some X.env)) (fun cenv s4=>
   codeAny (model X.prog X.w) X.A (.compStart (.ListComp elt [⟨tg,iter,ifs,0⟩] scope pos) 0 (.ref it) acc {cenv with scope:=relabel scope X.env}) (RR acc cenv.locals) s4) E s3) E s:=by
 subst hN
 have fresh:H s.heap.objs.size=none:=I.hok.fresh (Nat.le_refl _)
 refine wpAny_newObj_type ?_
 have I3:Inv X pins σ (upd H s.heap.objs.size (.lst [])) {s with heap:=s.heap.push {cls:=.type "list",dict:=none,data:=.seq ([]:List Value).toArray}}:=
  I.laid (t':=s.toks) (fun b u e=>Heap.get?_push_of_some _ e) (Nat.le_refl _) ⟨Nat.zero_le _,[],0,.nil,Heap.get?_push_size _ rfl⟩
 have old:∀b∈fp,∃o,s.heap.get? b=some o:=fun b hb=>by
  obtain ⟨o,e,_⟩:=T.obj _ _ st b hb
  exact ⟨o,e⟩
 have hf3:∀b∈fp,FpOk X pins (upd H s.heap.objs.size (.lst [])) b:=fun b hb=>by
  obtain ⟨o,e⟩:=old b hb
  exact ⟨by rw [upd_ne (Nat.ne_of_lt (Heap.lt_size e))]; exact (hf b hb).1,(hf b hb).2⟩
 have st3:tn 0 (s.heap.push {cls:=.type "list",dict:=none,data:=.seq ([]:List Value).toArray}):=T.keep _ _ _ st fun b hb o e=>Heap.get?_push_of_some _ e
 have q3:=q _ fresh
 have ho3:∀b∈fp,∃o,(s.heap.push {cls:=.type "list",dict:=none,data:=.seq ([]:List Value).toArray}).get? b=some o:=fun b hb=>by
  obtain ⟨o,e⟩:=old b hb
  exact ⟨o,Heap.get?_push_of_some _ e⟩
 have RR3:=hRR s.heap.objs.size {s with heap:=s.heap.push {cls:=.type "list",dict:=none,data:=.seq ([]:List Value).toArray}} (upd H s.heap.objs.size (.lst []))
 generalize s.heap.objs.size=D at *
 generalize upd H D (.lst [])=H3 at *
 generalize s.heap.push {cls:=.type "list",dict:=none,data:=.seq ([]:List Value).toArray}=h3 at *
 refine wpAny_newFunctionEnv B.nocell (by intro y hy; simp at hy) (fun h4 hn4 sb4=>?_) B.kind
 have k4:∀b o,h3.get? b=some o→h4.get? b=some o:=fun b o e=>(sb4.2 b (Nat.ne_of_lt (Heap.lt_size e))).trans (Heap.get?_push_of_some _ e)
 have I4:=blk_inv (os:=os) (t1:=s.toks + ([]:List (Str × Value)).length) B he I3 hf3 ho3 k4 hn4
 have st4:tn 0 h4:=T.keep _ _ _ st3 fun b hb o e=>k4 b o e
 obtain ⟨W,⟨m0,w0⟩,turn⟩:=q3
 have fpB:∀{H':Hp},(∀b∈fp,H' b=none)→∀b∈fp,FpOk (blk X scope (nB X.N os fi) {s with heap:=h3} H3 fp) [] H' b:=fun hn b hb=>by
  refine ⟨hn b hb,(I4.ok.exf b hb).1,I4.ok.exfs b hb,.inl hb,(I4.ok.exf b hb).2,fun p hp=>nomatch hp⟩
 have loop:∀s4:Shared,Inv (blk X scope (nB X.N os fi) {s with heap:=h3} H3 fp) [] (sB σ os fi) H3 s4→tn 0 s4.heap→
   codeAny (model X.prog X.w) X.A (.compLoop (.ListComp elt [⟨tg,iter,ifs,0⟩] scope pos) 0 (.ref it) (.ref D) (compEnvC scope (clOf X.env scope.names []) h3.objs.size X.env)) (RR (.ref D) h3.objs.size) s4:=by
  intro s4 J4 t4
  refine comp_loop (fun n s'=>∃i σ' H',Inv (blk X scope (nB X.N os fi) {s with heap:=h3} H3 fp) [] σ' H' s'∧tn i s'.heap∧(∀b∈fp,H' b=none)∧W i n σ' H') ?_ m0 ⟨0,_,_,J4,t4,fun b hb=>(hf3 b hb).1,w0⟩
  rintro n s5 ⟨i,σ5,H5,I5,t5,fr5,w5⟩
  rcases turn i n σ5 H5 w5 with ⟨stop,qn⟩ | ⟨go,step⟩
  ·refine of_F0 (T.done (blk X scope (nB X.N os fi) {s with heap:=h3} H3 fp) rfl rfl rfl hc i [] s5 σ5 H5 F0 I5 (fpB fr5) t5 stop) fun r s6 ⟨hr,I6⟩=>?_
   subst hr
   exact RR3 s6 σ5 H5 I3 hf3 I6 qn
  ·refine of_F0 (T.item (blk X scope (nB X.N os fi) {s with heap:=h3} H3 fp) rfl rfl rfl hc i [] s5 σ5 H5 F0 I5 (fpB fr5) t5 go) fun r s6 ⟨u,hr,h6⟩=>?_
   subst hr
   refine of_F0 h6 fun _ s7 ⟨x,H7,I7,r7,y7,t7,fr7⟩=>?_
   have I7':=I7.pinned (fpB fr7) (T.obj _ _ t7)
   refine of_F0 (hg _ _ _ _ s7 σ5 H7 x u _ I7' r7 (step x H7 y7)) fun _ s8 ⟨σ8,H8,I8,q8⟩=>?_
   refine of_F0 (ht _ _ _ _ s8 σ8 H8 _ I8 q8) fun ok s9 ⟨H9,I9,q9⟩=>?_
   have again:∀{s':Shared} {H':Hp} {m:Nat},Inv (blk X scope (nB X.N os fi) {s with heap:=h3} H3 fp) ([] ++ pinsAt fp s7.heap) σ8 H' s'→W (i + 1) m σ8 H'→
     ∃i σ' H',Inv (blk X scope (nB X.N os fi) {s with heap:=h3} H3 fp) [] σ' H' s'∧tn i s'.heap∧(∀b∈fp,H' b=none)∧W i m σ' H':=fun {s' H' m} J w=>by
    refine ⟨i + 1,σ8,H',J.unpinned,T.keep _ _ _ t7 fun b hb o e=>(J.pin (b,o) (List.mem_append_right _ (List.mem_append_right _ (mem_pinsAt hb e)))).1,fun b hb=>?_,w⟩
    obtain ⟨o,e,d⟩:=T.obj _ _ t7 b hb
    exact (J.pin (b,o) (List.mem_append_right _ (List.mem_append_right _ (mem_pinsAt hb e)))).2.1
   cases ok with
   | false=>
    obtain ⟨m',lt,w9⟩:=(show ∃m',m' < n∧W (i + 1) m' σ8 H9 from q9)
    exact ⟨m',lt,again I9 w9⟩
   | true=>
    refine of_F0 (hel _ _ _ _ s9 σ8 H9 _ I9 q9) fun y sA ⟨v,HA,IA,rA,xs,hx,hz,m',lt,wA⟩=>?_
    refine of_F0 (mt_append _ sA σ8 HA (.ref D) [v] (.ref D) [y] (fun _ H'=>W (i + 1) m' σ8 H') IA rfl (.cons rA .nil) ⟨D,xs,v,rfl,rfl,hx,hz,wA⟩) fun _ sB' ⟨_,HB,IB,_,wB⟩=>?_
    exact ⟨m',lt,again IB wB⟩
 exact codeAny_compStart_list (loop _ I4 st4) (T.self _ 0 _ _ _ st4 (loop _ I4 st4))
theorem pe_comp (hc:X.calm=true) (hN:X.N=N) (he:X.env.scope=esc) (B:BlkOk esc scope N fi) (hi:PI X tg iter wi)
  (hg:∀s H fp,PG (blk X scope (nB N os fi) s H fp) tg g) (ht:∀s H fp,PTs (blk X scope (nB N os fi) s H fp) ifs tt) (hel:∀s H fp,PE (blk X scope (nB N os fi) s H fp) elt te)
  (hs:∀x,foldedSetIterable iter X.env x=pure x:=by intro _; rfl):PE X (.ListComp elt [⟨tg,iter,ifs,0⟩] scope pos) (tLC os fi wi g tt te):=by
 intro pins s σ H Q I h
 have cells:=blk_cells (by rw [hN]; exact B) he I
 rw [eval_ListComp]
 refine wpAny_comprehension_free (use:=none) rfl hs (closure_eq cells) B.kind B.loc (thn (hi pins s σ H _ I h) fun v s1 h1=>thn h1 fun itv s2 h2=>?_)
 obtain ⟨it,fp,tn,J,H2,rfl,I2,T,st2,f2,q2⟩:=h2
 refine comp_core (RR:=fun acc C=>compPost (model X.prog X.w) X.A X.xe none (EP X pins σ Q) acc C) hc hN he B hg ht hel I2 T st2 f2 q2 ?_
 intro D s3 H3 s' σ' H' I3 f3 I' q
 obtain ⟨m,hn,_⟩:=I'.loc
 exact ⟨m,hn,fun h' sb=>⟨.ref D,H',blk_out I3 f3 I' sb,rfl,q⟩⟩
theorem ps_comp {i:Nat} {y:Str} {py:Pos} {spos:Pos} (hc:X.calm=true) (hN:X.N=N) (he:X.env.scope=esc) (B:BlkOk esc scope N fi) (hnd:X.N.Nodup) (hy:X.N[i]? = some y) (hl:Loc X.env.scope y) (hi:PI X tg iter wi)
  (hg:∀s H fp,PG (blk X scope (nB N os fi) s H fp) tg g) (ht:∀s H fp,PTs (blk X scope (nB N os fi) s H fp) ifs tt) (hel:∀s H fp,PE (blk X scope (nB N os fi) s H fp) elt te)
  (hsw:swapsWith (.ListComp elt [⟨tg,iter,ifs,0⟩] scope pos) (some (.Name y py)) spos.line X.env=pure true:=by rfl)
  (hfn:X.fn y=true∨X.env.scope.names.lookup y=some .local:=by first | exact .inl rfl | exact .inr rfl | assumption)
  (hs:∀x,foldedSetIterable iter X.env x=pure x:=by intro _; rfl):PS X (.Assign [.Name y py] (.ListComp elt [⟨tg,iter,ifs,0⟩] scope pos) spos) (fun D σ H=>tLC os fi wi g tt te σ H fun v H'=>D.nx (σ.set i (some v)) H'):=by
 intro pins s σ H D I h
 have cells:=blk_cells (by rw [hN]; exact B) he I
 rw [exec_Assign_Name_used _ _ _ _ hsw]
 refine wpAny_bind (wpAny_standAt (wpAny_bind ?_))
 show wpAny _ _ (do let _ ← comprehension (.ListComp elt [⟨tg,iter,ifs,0⟩] scope pos) scope X.env _ (newList []) false (eval iter X.env) (some (assign (.Name y py) X.env))) _ _ s
 refine wpAny_bind (thn (wpAny_comprehension_free (use:=some (assign (.Name y py) X.env)) (Q:=fun _ s'=>SP X pins D .next s') rfl hs (closure_eq cells) B.kind B.loc (thn (hi pins s σ H _ I h) fun v s1 h1=>thn h1 fun itv s2 h2=>?_)) fun _ _ z=>wpAny_pure (wpAny_pure z))
 obtain ⟨it,fp,tn,J,H2,rfl,I2,T,st2,f2,q2⟩:=h2
 refine comp_core (RR:=fun acc C=>compPost (model X.prog X.w) X.A X.xe (some (assign (.Name y py) X.env)) (fun _ s'=>SP X pins D .next s') acc C) hc hN he B hg ht hel I2 T st2 f2 q2 ?_
 intro Dl s3 H3 s' σ' H' I3 f3 I' q
 have J':Inv X pins σ H' s':=blk_out I3 f3 I' (Heap.SameBut.refl ..)
 show wpAny _ _ (assign (.Name y py) X.env (.ref Dl)) _ _ s'
 refine wpAny_assign_Name (store_ok2 (v:=.ref Dl) J' hnd hy hl rfl (fun s'' J'' sb=>?_) hfn)
 obtain ⟨a,sb,ha⟩:=sb
 have cL:s3.heap.objs.size≠X.env.locals:=Nat.ne_of_gt I3.lt
 have cC:∀x c,X.env.cells.lookup x=some c→c≠s3.heap.objs.size:=fun x c e=>by
  obtain ⟨v,ic⟩:=I3.cell x c e
  exact Nat.ne_of_lt ic.lt
 have ca:s3.heap.objs.size≠a:=by
  rcases ha with z | z
  ·rw [z]; exact cL
  ·exact (cC _ _ z).symm
 obtain ⟨m,hn,_⟩:=I'.loc
 have hn'':s''.heap.Ns s3.heap.objs.size m:=by
  obtain ⟨o,es,ep,ho,r⟩:=hn
  exact ⟨o,es,ep,(sb.2 _ ca).trans ho,r⟩
 refine ⟨m,hn'',fun h' sb'=>⟨σ.set i (some (.ref Dl)),H',?_,q⟩⟩
 exact J''.turned (t':=s''.toks) (it:=s3.heap.objs.size) (fun b o hb e=>(sb'.2 b hb).trans e) I'.free cL (.inr I3.sz) cC fun p hp=>Nat.ne_of_lt (Heap.lt_size (I3.pin p hp).1)
end
theorem runs_gens {M:Model} {G:PySem.Ctx} {p:Pos} {t:Sem Fin} {fs:List Frame} {a b:Shared} {e:End} (h:Runs M G p t fs a e b):a.gens.size≤b.gens.size:=by
 induction h <;> (try simp only [Shared.setGen,Array.size_setIfInBounds,Array.size_push] at *) <;> omega
theorem wakes_gens {M:Model} {G:PySem.Ctx} {p:Pos} {g:Nat} {r:Resume} {a b:Shared} {x:GenResult} (h:Wakes M G p g r a x b):a.gens.size≤b.gens.size:=by
 have sz:∀(s:Shared) (y:GenState),(s.setGen g y).gens.size=s.gens.size:=fun s y=>by simp [Shared.setGen]
 unfold Wakes at h
 split at h
 ·exact h.elim
 ·split at h
  ·obtain ⟨e,c,q,_,_,rfl⟩:=h
   have:=runs_gens q
   rw [sz] at this ⊢
   exact this
  ·rw [h.2]; first | exact Nat.le_refl _ | (rw [sz]; exact Nat.le_refl _)
  ·rw [h.2]; first | exact Nat.le_refl _ | (rw [sz]; exact Nat.le_refl _)
 ·obtain ⟨e,c,q,_,_,rfl⟩:=h
  have:=runs_gens q
  rw [sz] at this ⊢
  exact this
 ·rw [h.2]; first | exact Nat.le_refl _ | (rw [sz]; exact Nat.le_refl _)
 ·rw [h.2]; first | exact Nat.le_refl _ | (rw [sz]; exact Nat.le_refl _)
theorem wp_gens {α:Type} (M:Model) (G:PySem.Ctx) (k:Nat) (t:Sem α):∀(Q:α→Pos→Shared→Prop) (E:Value→Pos→Shared→Prop) (p:Pos) (a:Shared),k≤a.gens.size→Sem.wp M G t Q E p a→
  Sem.wp M G t (fun x p' b=>k≤b.gens.size∧Q x p' b) (fun e p' b=>k≤b.gens.size∧E e p' b) p a:=by
 induction t with
 | pure _=>intro Q E p a l h; exact ⟨l,h⟩
 | raise _=>intro Q E p a l h; exact ⟨l,h⟩
 | unsupported _=>intro Q E p a _ h; exact h
 | finish _=>intro Q E p a _ h; exact h
 | rule _ _ ih=>intro Q E p a l h; exact ih () Q E p a l h
 | «at» p' _ ih=>intro Q E p a l h; exact ih () Q E p' a l h
 | load _ _ _ ih=>intro Q E p a l h; obtain ⟨o,z,h⟩:=h; exact ⟨o,z,ih o Q E p a l h⟩
 | update _ _ _ _ ih=>intro Q E p a l h; exact ⟨h.1,ih () Q E p _ l h.2⟩
 | loadIfAlive _ _ ih=>intro Q E p a l h; exact ih _ Q E p a l h
 | point _ _ ih=>intro Q E p a l h; exact ih () Q E p a l h
 | register _ _=>intro Q E p a _ h; exact h
 | alloc _ _ ih=>intro Q E p a l h; exact ih _ Q E p _ l h
 | fresh _ ih=>intro Q E p a l h; exact ih _ Q E p _ l h
 | ask _ ih=>intro Q E p a l h; exact ih _ Q E p a l h
 | choose _ _ _ ih=>intro Q E p a l h; exact ⟨h.1,ih _ Q E p _ l h.2⟩
 | os _ _ _ ih=>intro Q E p a l h; exact ih _ Q E p _ l h
 | call _ _ _ _ _ ih=>intro Q E p a l h; obtain ⟨r,b,z,h⟩:=h; exact ⟨r,b,z,ih r Q E p b (Nat.le_trans l (runs_gens z)) h⟩
 | handled _ _ ih=>intro Q E p a l h; exact ih _ Q E p a l h
 | genState _ _ ih=>intro Q E p a l h; obtain ⟨x,z,h⟩:=h; exact ⟨x,z,ih _ Q E p a l h⟩
 | newGen _ _ ih=>intro Q E p a l h; exact ih _ Q E p _ (by simp only [Array.size_push]; omega) h
 | resume _ _ _ _ ih=>intro Q E p a l h; obtain ⟨r,b,z,h⟩:=h; exact ⟨r,b,z,ih r Q E p b (Nat.le_trans l (wakes_gens z)) h⟩
 | yield _ _ _ _=>intro Q E p a _ h; exact h
 | stack _ ih=>intro Q E p a l h; exact ih _ Q E p a l h
 | fork _ _=>intro Q E p a _ h; exact h
 | thread _ ih=>intro Q E p a l h; exact ih _ Q E p a l h
 | await _ _ _ _ _=>intro Q E p a _ h; exact h
theorem any_gens {α:Type} {M:Model} {A:Around} {t:Sem α} {Q:α→Shared→Prop} {E:Value→Shared→Prop} {a:Shared} {k:Nat} (l:k≤a.gens.size) (h:wpAny M A t Q E a) :
  wpAny M A t (fun x b=>k≤b.gens.size∧Q x b) (fun e b=>k≤b.gens.size∧E e b) a:=fun G p hG=>wp_gens M G k t _ _ p a l (h G p hG)
def gA (A:Around) (e:Env):Around:=⟨A.handled,A.depth + 1,A.frames.map (e :: ·),A.guards,A.units + 3⟩
abbrev gE (X:Cx) (scope:Scope) (code:Value) (s:Shared):Env:=genEnv scope (clOf X.env scope.names []) s.heap.objs.size code builtinsNs X.env
def gblk (X:Cx) (scope:Scope) (N:List Str) (code:Value) (s:Shared) (H:Hp) (fp:List Addr):Cx:=
 {X with A:=gA X.A.in1.in1 (gE X scope code s),N:=N,s₀:=s,H₀:=H,env:=gE X scope code s,outer:=X.stack,stack:=gE X scope code s :: X.stack,ex:=fp,fn:=fun _=>false,pn:=[],xe:=fun _ _=>False}
section
variable {X:Cx} {pins:List (Addr × Obj)} {σ:St} {H:Hp} {s:Shared} {scope esc:Scope} {os:List Str} {fi:List Nat} {fp:List Addr} {code:Value}
theorem gblk_ok (B:BlkOk esc scope X.N fi) (he:X.env.scope=esc) (I:Inv X pins σ H s) (hf:∀b∈fp,FpOk X pins H b) (ho:∀b∈fp,∃o,s.heap.get? b=some o):(gblk X scope (nB X.N os fi) code s H fp).Ok where
 mod:=I.ok.mod
 kind:=B.kind
 glob:=I.ok.glob
 blt:=rfl
 above:=Nat.le_refl _
 inj:=fun x y c h1 h2=>I.ok.inj x y c (blk_cl B he I h1) (blk_cl B he I h2)
 has:=fun x h=>by
  rcases h with h | h
  ·exact absurd rfl (B.nocell _ (mem_of_look h))
  ·exact ⟨_,clOf_has (mem_of_look h)⟩
 cab:=fun x c h _=>nomatch h
 hd:=I.ok.hd
 frames:=by
  show (X.A.in1.in1.frames).map (gE X scope code s :: ·)=_
  rw [show X.A.in1.in1.frames=X.A.frames from rfl,I.ok.frames]
  rfl
 stk:=.inr ⟨rfl,rfl⟩
 exf:=fun b hb=>by
  obtain ⟨o,e⟩:=ho b hb
  exact ⟨Nat.ne_of_lt (Heap.lt_size e),fun x c h=>(hf b hb).2.2.2.2.1 x c (blk_cl B he I h)⟩
 bs:=I.bs
 bsz:=Nat.le_trans I.ok.bsz I.sz
 noex:=(blk_ok (os:=os) B he I hf ho).noex
 exfs:=(blk_ok (os:=os) B he I hf ho).exfs
 funs:=I.stack
 frf:=I.stkFree
theorem gblk_inv {h1:Heap} {t1:Nat} {g1:Array GenState} {m1:Str→Option Value} (B:BlkOk esc scope X.N fi) (he:X.env.scope=esc) (I:Inv X pins σ H s) (hf:∀b∈fp,FpOk X pins H b) (ho:∀b∈fp,∃o,s.heap.get? b=some o)
  (k:∀b o,s.heap.get? b=some o→h1.get? b=some o) (hn:h1.Ns s.heap.objs.size m1) (hb:AllBare g1):Inv (gblk X scope (nB X.N os fi) code s H fp) [] (sB σ os fi) H {s with heap:=h1,toks:=t1,gens:=g1} where
 ok:=gblk_ok B he I hf ho
 os:=rfl
 bare:=hb
 base:=Un.kept k
 loc:=by
  obtain ⟨m,hm,hl⟩:=(blk_inv (os:=os) (t1:=t1) B he I hf ho k hn).loc
  refine ⟨m1,hn,fun j x v e1 e2 e3=>?_⟩
  have e3':Vis (relabel scope X.env) x:=by
   rcases e3 with e3 | e3 | e3
   ·exact .inl (lookup_relabel_local e3)
   ·exact absurd rfl (B.nocell _ (mem_of_look e3))
   ·rcases relabel_free (env:=X.env) e3 with z | z
    ·exact .inr (.inl z)
    ·exact .inr (.inr z)
  obtain ⟨u,r,l⟩:=hl j x v e1 e2 e3'
  refine ⟨u,r,?_⟩
  have kx:scope.names.lookup x=some .free:=by
   rcases e3 with e3 | e3 | e3
   ·have hj:os.length≤j:=by
     by_cases hj:j < os.length
     ·have z:(sB σ os fi)[j]? = some (some v):=e2
      unfold sB at z
      rw [List.getElem?_append_left (by simpa using hj),List.getElem?_map] at z
      cases q:os[j]? with
      | none=>rw [q] at z; cases z
      | some _=>rw [q] at z; cases z
     ·omega
    have z1:(nB X.N os fi)[j]? = some x:=e1
    unfold nB at z1
    rw [List.getElem?_append_right hj,List.getElem?_map] at z1
    cases q:fi[j - os.length]? with
    | none=>rw [q] at z1; cases z1
    | some i=>
     rw [q] at z1
     have w1:X.N.getD i "" = x:=Option.some.inj z1
     rw [← w1]
     exact B.ix i (List.mem_of_getElem? q)
   ·exact absurd rfl (B.nocell _ (mem_of_look e3))
   ·exact e3
  rcases l with ⟨a,_⟩ | ⟨_,c,e,ic⟩
  ·have a':(relabel scope X.env).names.lookup x=some .local:=a
   rcases relabel_free (env:=X.env) kx with z | z
   ·have z':(relabel scope X.env).names.lookup x=some .cell:=z
    rw [z'] at a'; cases a'
   ·have z':(relabel scope X.env).names.lookup x=some .free:=z
    rw [z'] at a'; cases a'
  ·exact .inr ⟨.inr kx,c,e,ic⟩
 cell:=(blk_inv (os:=os) (t1:=t1) B he I hf ho k hn).cell
 free:=I.hok.fresh (Nat.le_refl _)
 freeC:=fun x c h=>I.freeC x c (blk_cl B he I h)
 pin:=fun p hp=>nomatch hp
 hok:=I.hok.kept k
 len:=by
  show (sB σ os fi).length=(nB X.N os fi).length
  unfold sB nB
  simp
theorem gblk_out {N:List Str} {s':Shared} {H':Hp} {σ':St} {pins':List (Addr × Obj)} {h':Heap} {g':Array GenState} (I:Inv X pins σ H s) (hf:∀b∈fp,FpOk X pins H b) (I':Inv (gblk X scope N code s H fp) pins' σ' H' s')
  (k:∀b o,s'.heap.get? b=some o→h'.get? b=some o) (hb:AllBare g'):Inv X pins σ H' {s' with heap:=h',gens:=g'}:=by
 have un:Un (frs X.stack) fp H H' s.heap h':=by
  have u:Un (frs X.stack) fp H H' s.heap s'.heap:=I'.base
  exact ⟨fun b o e n hb hx=>k b o (u.keep b o e n hb hx),fun b o e n hb hx=>by
    obtain ⟨sl,q⟩:=u.slot b o e n hb hx
    exact ⟨sl,k b _ q⟩,u.free,fun b o e hx=>by
    obtain ⟨o',q⟩:=u.there b o e hx
    exact ⟨o',k b o' q⟩,u.tups,u.frzs,u.tbls⟩
 have hok:HOk X.prog X.w H' h':=I'.hok.kept k
 obtain ⟨hh,g,d,t,os'⟩:=s'
 obtain rfl:os'=s.os:=I'.os
 have J:=I.call (h':=h') (g':=g') (d':=d) (t':=t) (ch:=fp) un hok hb fun b hb=>⟨(hf b hb).2.2.2.1,(hf b hb).2.1,(hf b hb).2.2.2.2.1,(hf b hb).2.2.2.2.2⟩
 exact J
end
theorem bare_set {a:Array GenState} {g:Nat} {y:GenState} (h:AllBare a) (hy:y.bare=true):AllBare (a.setIfInBounds g y):=fun z hz=>by
 obtain ⟨i,hi,rfl⟩:=Array.mem_iff_getElem.mp hz
 have hi':i < a.size:=by simpa using hi
 rw [Array.getElem_setIfInBounds hi']
 split
 ·exact hy
 ·exact h _ (Array.getElem_mem _)
theorem setGen_size {s:Shared} {g:Nat} {y:GenState}:(s.setGen g y).gens.size=s.gens.size:=by simp [Shared.setGen]
theorem setGen_get {s:Shared} {g:Nat} {y:GenState} (h:g < s.gens.size):(s.setGen g y).gens[g]? = some y:=by simp [Shared.setGen,h]
theorem setGen_two {s:Shared} {g:Nat} {x y:GenState}:(s.setGen g x).setGen g y=s.setGen g y:=by
 simp [Shared.setGen]
theorem Inv.gens {X:Cx} {pins:List (Addr × Obj)} {σ:St} {H:Hp} {s:Shared} {g:Array GenState} (I:Inv X pins σ H s) (h:AllBare g):Inv X pins σ H {s with gens:=g}:=
 ⟨I.ok,I.os,h,I.base,I.loc,I.cell,I.free,I.freeC,I.pin,I.hok,I.len⟩
theorem Inv.setGen {X:Cx} {pins:List (Addr × Obj)} {σ:St} {H:Hp} {s:Shared} {g:Nat} {y:GenState} (I:Inv X pins σ H s) (h:y.bare=true):Inv X pins σ H (s.setGen g y):=I.gens (bare_set I.bare h)
def GLr (J:It) (g:TG) (te:TE) (σb:St) (H:Hp) (Q:VK):Prop:=∃W:Nat→Nat→St→Hp→Prop,(∃m,W 0 m σb H)∧∀i m σ2 H2,W i m σ2 H2→
 (J.stop i H2∧Q (.bl true) H2)∨(J.go i H2∧∀x H3,J.yld i H2 x H3→g x σ2 H3 fun σ4 H4=>te σ4 H4 fun v H5=>∃b,v = .bl b∧if b=true then ∃m',m' < m∧W (i + 1) m' σ4 H5 else Q (.bl false) H5)
def gR (Y:Cx) (ps:List (Addr × Obj)) (Q:VK):Nat→Shared→Shared→Prop:=fun _ _ s=>∃σ H,Inv Y ps σ H s∧Q (.bl true) H
def gY (Y:Cx) (ps:List (Addr × Obj)) (g:Nat) (Q:VK):Protocol:=fun _ _ v s kap=>∃b,v = .bool b∧g < s.gens.size∧∃σ H,Inv Y ps σ H s∧if b=true then kap (.send .none) (s.setGen g .running) else Q (.bl false) H
section
variable {X Y:Cx} {tg iter elt:Expr} {scope:Scope} {pos:Pos} {g:TG} {te:TE} {it:Addr} {fp:List Addr} {tn:Nat→Heap→Prop} {J:It} {Q:VK} {gn:Nat} {ps:List (Addr × Obj)} {W:Nat→Nat→St→Hp→Prop}
theorem seg_gen (hY:Y.A=gA X.A.in1.in1 Y.env) (hx:Y.xe=F0) (hc:Y.calm=true) (hco:Y.env.scope.isCoroutine=false) (hg:PG Y tg g) (hel:PE Y elt te) (T:Turn Y.prog Y.w Y.K tg J fp it tn)
  (stat:∀{H:Hp},(∀b∈fp,H b=none)→∀b∈fp,FpOk Y ps H b)
  (turn:∀i m σ2 H2,W i m σ2 H2→(J.stop i H2∧Q (.bl true) H2)∨(J.go i H2∧∀x H3,J.yld i H2 x H3→g x σ2 H3 fun σ4 H4=>te σ4 H4 fun v H5=>∃b,v = .bl b∧if b=true then ∃m',m' < m∧W (i + 1) m' σ4 H5 else Q (.bl false) H5)) :
  ∀(n m i:Nat) (σ:St) (H:Hp) (s₀ s:Shared),m < n→gn < s.gens.size→Inv Y ps σ H s→tn i s.heap→(∀b∈fp,H b=none)→W i m σ H→
   Seg (model Y.prog Y.w) X.A.in1.in1 (fun n s₀ r s₁=>r = .ok .next∧gR Y ps Q n s₀ s₁) (gY Y ps gn Q) n s₀ (.compLoop (.GeneratorExp elt [⟨tg,iter,[],0⟩] scope pos) 0 (.ref it) .none Y.env)
    ((model Y.prog Y.w).den (.compLoop (.GeneratorExp elt [⟨tg,iter,[],0⟩] scope pos) 0 (.ref it) .none Y.env)) [] s:=by
 have up:∀{α:Type} {t:Sem α} {P P':α→Shared→Prop} {E:Value→Shared→Prop} {s:Shared} {k:Nat},k < s.gens.size→wpAny (model Y.prog Y.w) Y.A t P Y.xe s→(∀a s',k < s'.gens.size→P a s'→P' a s')→
   wpAny (model Y.prog Y.w) (X.A.in1.in1.over (.compLoop (.GeneratorExp elt [⟨tg,iter,[],0⟩] scope pos) 0 (.ref it) .none Y.env) []) t P' E s:=fun {α t P P' E s k} l h f=>by
  rw [hY,hx] at h
  exact wpAny_mono (any_gens (k:=k + 1) l h) (fun a s' z=>f a s' z.1 z.2) fun _ _ z=>z.2.elim
 intro n
 induction n with
 | zero=>intro m i σ H s₀ s lt; omega
 | succ n ih=>
  intro m i σ H s₀ s lt lg I t0 fr w
  show Seg _ _ _ _ _ s₀ _ ((compTurn (.GeneratorExp elt [⟨tg,iter,[],0⟩] scope pos) 0 (.ref it) .none Y.env).onRaise (leaving Y.env)) [] s
  rw [compTurn_gen,Sem.onRaise_eq_wrap]
  refine seg_bind_wrap (wpAny_standAt ?_)
  rcases turn i m σ H w with ⟨stop,q⟩ | ⟨go,step⟩
  ·refine seg_bind_wrap (up lg (T.done Y rfl rfl rfl hc i ps s σ H Y.xe I (stat fr) t0 stop) fun r s1 _ ⟨hr,I1⟩=>?_)
   subst hr
   exact seg_end (.ok .next) ⟨rfl,σ,H,I1,q⟩
  ·refine seg_bind_wrap (up lg (T.item Y rfl rfl rfl hc i ps s σ H Y.xe I (stat fr) t0 go) fun r s1 l1 ⟨u,hr,h1⟩=>?_)
   subst hr
   refine seg_bind_wrap (up l1 h1 fun _ s2 l2 ⟨x,H2,I2,r2,y2,t2,fr2⟩=>?_)
   have I2':=I2.pinned (stat fr2) (T.obj _ _ t2)
   refine seg_bind_wrap (up l2 (hg _ s2 σ H2 x u _ I2' r2 (step x H2 y2)) fun _ s3 l3 ⟨σ3,H3,I3,q3⟩=>?_)
   refine seg_bind_wrap (wpAny_pure ?_)
   simp only [if_true]
   have hy:∀v,yieldOut Y.env v=yieldValue v:=fun v=>by simp only [yieldOut,hco,Bool.false_eq_true,if_false]
   simp only [hy]
   rw [Sem.bind_eq_wrap',Sem.bind_eq_wrap',Sem.wrap_wrap,Sem.wrap_wrap]
   refine seg_wrap (up l3 (hel _ s3 σ3 H3 _ I3 q3) fun y s4 l4 ⟨v,H4,I4,r4,b,hv,q4⟩=>?_)
   subst hv
   obtain rfl:y=Value.bool b:=r4
   refine seg_at (seg_yield rfl rfl rfl ⟨b,rfl,l4,σ3,H4,I4.unpinned,?_⟩)
   cases b with
   | false=>exact q4
   | true=>
    obtain ⟨m',lt',w'⟩:=(show ∃m',m' < m∧W (i + 1) m' σ3 H4 from q4)
    have t4:tn (i + 1) s4.heap:=T.keep _ _ _ t2 fun b hb o e=>(I4.pin (b,o) (List.mem_append_right _ (List.mem_append_right _ (mem_pinsAt hb e)))).1
    have fr4:∀b∈fp,H4 b=none:=fun b hb=>by
     obtain ⟨o,e,d⟩:=T.obj _ _ t2 b hb
     exact (I4.pin (b,o) (List.mem_append_right _ (List.mem_append_right _ (mem_pinsAt hb e)))).2.1
    exact seg_again rfl (ih m' (i + 1) σ3 H4 _ _ (by omega) (by rw [setGen_size]; exact l4) (I4.unpinned.setGen rfl) t4 fr4 w')
theorem seg_gen0 (hY:Y.A=gA X.A.in1.in1 Y.env) (hx:Y.xe=F0) (T:Turn Y.prog Y.w Y.K tg J fp it tn) {n:Nat} {s₀ s:Shared} {R:GenEnd} {P:Protocol} (t0:tn 0 s.heap)
  (h:Seg (model Y.prog Y.w) X.A.in1.in1 R P n s₀ (.compLoop (.GeneratorExp elt [⟨tg,iter,[],0⟩] scope pos) 0 (.ref it) .none Y.env)
    ((model Y.prog Y.w).den (.compLoop (.GeneratorExp elt [⟨tg,iter,[],0⟩] scope pos) 0 (.ref it) .none Y.env)) [] s) :
  Seg (model Y.prog Y.w) X.A.in1.in1 R P n s₀ (.compStart (.GeneratorExp elt [⟨tg,iter,[],0⟩] scope pos) 0 (.ref it) .none Y.env)
    ((model Y.prog Y.w).den (.compStart (.GeneratorExp elt [⟨tg,iter,[],0⟩] scope pos) 0 (.ref it) .none Y.env)) [] s:=by
 show Seg _ _ _ _ _ s₀ _ ((compStart (.GeneratorExp elt [⟨tg,iter,[],0⟩] scope pos) 0 (.ref it) .none Y.env).onRaise (leaving Y.env)) [] s
 unfold compStart
 rw [Sem.onRaise_eq_wrap]
 show Seg _ _ _ _ _ s₀ _ ((ask >>= _).wrap _ _ _ _) [] s
 refine seg_bind_wrap (wpAny_askSetting ?_)
 split
 ·exact seg_again rfl h
 ·refine seg_bind_wrap (wpAny_rule ?_)
  show Seg _ _ _ _ _ s₀ _ ((standAt iter.pos >>= _).wrap _ _ _ _) [] s
  exact seg_bind_wrap (wpAny_standAt (seg_bind_wrap (T.self _ 0 s _ _ t0 (seg_again rfl h))))
theorem all_gen {pins:List (Addr × Obj)} {σ:St} {a:Addr} {oa:Obj} {E:Value→Shared→Prop} {RR:Result→Shared→Prop} (hh:X.A.handled=none) (hroom:X.A.depth < recursionLimit) (hpa:(a,oa)∈ps) (hga:∀h:Heap,h.get? a=some oa→h.IsGen a gn)
  (ht:∀(s:Shared) (h':Heap) (y:GenState) (σ':St) (H':Hp),Inv Y ps σ' H' s→(∀b o,s.heap.get? b=some o→h'.get? b=some o)→y.bare=true→Q (.bl true) H'→RR (.ok (.ret (.bool true))) {s.setGen gn y with heap:=h'})
  (hf:∀(s:Shared) (y:GenState) (σ':St) (H':Hp),Inv Y ps σ' H' s→y.bare=true→Q (.bl false) H'→RR (.ok (.ret (.bool false))) (s.setGen gn y)) :
  ∀(n:Nat) (gs:GenState) (s:Shared),s.heap.IsGen a gn→s.heap.NoLimit→s.gens[gn]? = some gs→
   gs.Goes (model Y.prog Y.w) X.A.in1.in1 (fun n s₀ r s₁=>r = .ok .next∧gR Y ps Q n s₀ s₁) (gY Y ps gn Q) n (.send .none) (s.setGen gn .running)→
   codeAny (model Y.prog Y.w) X.A (.builtin "all.loop" ⟨[.ref a],[]⟩) RR s:=by
 intro n
 induction n with
 | zero=>
  intro gs s hg hl hgs go
  refine codeAny_builtin F.entry_all_loop ?_
  rw [Around.under_plainId F.plain_all_loop _]
  show wpAny _ X.A.in1 (pyNext (.ref a) >>= _) _ _ s
  refine wpAny_bind (wpAny_pyNext_genexpQ (P:=gR Y ps Q) hh hl hroom hg hgs go (fun v s1 gs' hb hv=>?_) (fun s1 hp h' hk=>?_))
  ·obtain ⟨b,rfl,lt,σ',H',I',q⟩:=hv
   refine wpAny_bind (wpAny_holding (wpAny_truthy_bool ?_))
   refine wpAny_bind (wpAny_letGo ?_)
   cases b with
   | true=>exact False.elim q
   | false=>
    simp only [Bool.false_eq_true,if_false]
    exact wpAny_bind (wpAny_rule (wpAny_pure (hf s1 gs' σ' H' I' hb q)))
  ·obtain ⟨σ',H',I',q⟩:=hp
   exact wpAny_bind (wpAny_rule (wpAny_pure (ht s1 h' .finished σ' H' I' hk rfl q)))
 | succ n ih=>
  intro gs s hg hl hgs go
  refine codeAny_builtin F.entry_all_loop ?_
  rw [Around.under_plainId F.plain_all_loop _]
  show wpAny _ X.A.in1 (pyNext (.ref a) >>= _) _ _ s
  refine wpAny_bind (wpAny_pyNext_genexpQ (P:=gR Y ps Q) hh hl hroom hg hgs go (fun v s1 gs' hb hv=>?_) (fun s1 hp h' hk=>?_))
  ·obtain ⟨b,rfl,lt,σ',H',I',q⟩:=hv
   refine wpAny_bind (wpAny_holding (wpAny_truthy_bool ?_))
   refine wpAny_bind (wpAny_letGo ?_)
   cases b with
   | true=>
    simp only [if_true]
    refine wpAny_pure ⟨plainId_quiet F.plain_all_loop _,ih gs' _ (hga _ (I'.pin _ (List.mem_append_right _ hpa)).1) I'.nolimit (setGen_get lt) ?_⟩
    rw [setGen_two]
    exact q
   | false=>
    simp only [Bool.false_eq_true,if_false]
    exact wpAny_bind (wpAny_rule (wpAny_pure (hf s1 gs' σ' H' I' hb q)))
  ·obtain ⟨σ',H',I',q⟩:=hp
   exact wpAny_bind (wpAny_rule (wpAny_pure (ht s1 h' .finished σ' H' I' hk rfl q)))
end
structure CodeK (K:PySem.W.Frag) (c P:Addr):Prop where
 ex:∃(o:Obj) (vs:Array Value) (file:Str) (tf:Tok) (flags:Int) (tk:Tok) (inF:Bool) (text:Int) (tt:Tok),K.lookup c=some o∧o.cls = .type "code"∧o.data = .fields vs∧vs[11]? = some (.ref P)∧vs.getD 18 .none = .str file tf∧
  vs.getD 7 .none = .int flags tk∧vs.getD 9 .none = .bool inF∧vs.getD 10 .none = .int text tt
 ne:c≠P
structure BmK (X:Cx):Prop where
 ex:∃(bm:Addr) (ob:Obj),X.mg "__builtins__" = some (.ref bm)∧bm≠builtinsNs∧X.base.get? bm=some ob∧ob.cls = .type "module"∧ob.dict=some builtinsNs∧ob.data = .plain
theorem upd_self {H:Hp} {p:Addr} {o:HO} (h:H p=some o):upd H p o=H:=by
 funext b
 by_cases e:b=p
 ·subst e; rw [upd_same,h]
 ·rw [upd_ne e]
section
variable {X:Cx} {pins:List (Addr × Obj)} {σ:St} {H:Hp} {s:Shared} {c P:Addr}
theorem tab_step {E:Value→Shared→Prop} {pos:Pos} {qn:Str} {scope:Scope} {ps:Array Value} (I:Inv X pins σ H s) (hc:X.env.code = .ref c) (C:CodeK X.K c P) (hP:H P=some (.tbl ps)) (tr:TriplesOk ps.toList) :
  wpAny (model X.prog X.w) X.A (genexprCode X.env pos qn scope) (fun code s'=>∃ps',TriplesOk ps'.toList∧Inv X pins σ (upd H P (.tbl ps')) s'∧(∀b o,b≠P→s.heap.get? b=some o→s'.heap.get? b=some o)) E s:=by
 obtain ⟨o,vs,file,tf,flags,tk,inF,text,tt,lk,cl,d,h11,h18,h7,h9,h10⟩:=C.ex
 have ho:=I.kIn c o lk
 have hp:s.heap.get? P=some {cls:=.none,data:=.fields ps}:=I.hok P _ hP
 have g11:vs.getD 11 .none = .ref P:=by
  rw [Array.getD_eq_getD_getElem?,h11]; rfl
 have hok:s.heap.IsCode c P ps:=⟨o,vs,file,tf,flags,tk,inF,text,tt,_,ho,d,g11,h18,h7,h9,h10,hp,rfl,tr,C.ne⟩
 have htab:s.heap.TableAt c P ps:=⟨⟨o,vs,ho,cl,d,h11⟩,hp⟩
 cases hnf:codeAmong pos ps.toList with
 | some c'=>exact wpAny_genexprCode_hit hc hok hnf ⟨ps,tr,by rw [upd_self hP]; exact I,fun b o _ e=>e⟩
 | none=>
  refine wpAny_genexprCodeX hc hok htab hnf fun c' h' tk ext _ _ _ _ tab _=>?_
  have tr':TriplesOk (ps ++ #[rawInt pos.line,rawInt pos.col,.ref c']).toList:=by
   rw [Array.toList_append]
   exact TriplesOk_snoc _ _ _ _ tr
  refine ⟨_,tr',?_,fun b o hb e=>ext b o hb e⟩
  have ne:∀b,H b=none→b≠P:=fun b n z=>by rw [z,hP] at n; cases n
  have neT:∀b u,H b=some u→(∀q,u≠.tbl q)→b≠P:=fun b u e n z=>by rw [z,hP] at e; cases e; exact n _ rfl
  refine I.un (t':=tk) ⟨fun b o e n _ _=>ext b o (ne b n) e,fun b o e n _ _=>⟨o.slots,ext b o (ne b n) e⟩,fun b o e n _=>by rw [upd_ne (ne b n)]; exact n,fun b o e _=>?_,fun b xs e=>by rw [upd_ne (neT b _ e fun _ z=>nomatch z)]; exact e,
   fun b o u e=>by rw [upd_ne (neT b _ e fun _ z=>nomatch z)]; exact e,fun b qs e=>?_⟩ fun b u e=>?_
  ·by_cases hb:b=P
   ·subst hb; exact ⟨_,tab.2⟩
   ·exact ⟨o,ext b o hb e⟩
  ·by_cases hb:b=P
   ·subst hb
    rw [hP] at e; cases e
    exact ⟨_,upd_same⟩
   ·exact ⟨#[],by rw [upd_ne hb,e]; simp⟩
  ·by_cases hb:b=P
   ·subst hb
    rw [upd_same] at e; cases e
    exact tab.2
   ·rw [upd_ne hb] at e
    refine (I.hok b u e).stay (fun d v hd q=>ext d v ?_ q) (fun d q=>by rw [upd_ne (neT d _ q fun _ z=>nomatch z)]; exact q) fun d xs q=>by rw [upd_ne (neT d _ q fun _ z=>nomatch z)]; exact q
    rcases hd with z | z
    ·rw [z]; exact hb
    ·exact neT d _ z fun _ y=>nomatch y
end
def tAll (P:Addr) (os:List Str) (fi:List Nat) (wi:TI) (g:TG) (te:TE):TE:=fun σ H Q=>wi σ H fun J H1=>∃ps,H1 P=some (.tbl ps)∧TriplesOk ps.toList∧∀ps',TriplesOk ps'.toList→GLr J g te (sB σ os fi) (upd H1 P (.tbl ps')) Q
theorem Room.gen {k:Nat} {A:Around} {e:Env} (r:Room (k + 1) A):Room k (gA A.in1.in1 e):=
 ⟨r.hd,by have:=r.dp; show A.depth + 1 + 3 * k + 5 < _; omega,by have:=r.un; show A.units + 1 + 1 + 3 + 16 * k + 200 < _; omega⟩
section
variable {X:Cx} {tg iter elt:Expr} {scope esc:Scope} {pos gpos p:Pos} {N os:List Str} {fi:List Nat} {wi:TI} {g:TG} {te:TE} {c P:Addr} {k:Nat}
theorem pe_all (hc:X.calm=true) (hr:Room k X.A) (hgl:Gl X "all") (hm:X.mg "all" = none) (hcd:X.env.code = .ref c) (CK:CodeK X.K c P) (BM:BmK X) (hN:X.N=N) (he:X.env.scope=esc) (B:BlkOk esc scope N fi) (hco:scope.isCoroutine=false) (h0:scope.names.lookup (".0" : Str)=some NameKind.local) (hi:PI X tg iter wi)
  (hg:∀code s H fp,PG (gblk X scope (nB N os fi) code s H fp) tg g) (hel:∀code s H fp,PE (gblk X scope (nB N os fi) code s H fp) elt te)
  (hs:∀x,genFold iter X.env x=pure x:=by intro _; rfl):PE X (.Call (.Name "all" p) [.GeneratorExp elt [⟨tg,iter,[],0⟩] scope gpos] [] pos) (tAll P os fi wi g te):=by
 intro pins s σ H Q I h
 subst hN
 have cells:=blk_cells B he I
 have hroom:X.A.depth < recursionLimit:=by have:=hr.dp; omega
 refine wpAny_Call_Name_kw (ld_blt I hgl hm boot_all ?_)
 refine PyProof.Rows.callWith_builtin1 ?_ rfl rfl
 show wpAny _ _ (spliced ((false,eval (.GeneratorExp elt [⟨tg,iter,[],0⟩] scope gpos) X.env) :: backTo pos (starEach [] X.env))) _ _ s
 refine Calls.spliced_cons (wpAny_GeneratorExp_make hco (closure_eq cells) B.nocell h0 B.kind hroom (thn (hi pins s σ H _ I h) fun v s1 h1=>thn h1 fun itv s2 h2=>?_) hs)
 obtain ⟨it,fp,tn,J,H2,rfl,I2,T,st2,f2,qs,hP,tr,q2⟩:=h2
 refine ⟨I2.nolimit,thn (tab_step I2 hcd CK hP tr) fun code s3 ⟨qs',tr',I3,k3⟩=>?_⟩
 obtain ⟨bm,ob,b1,b2,b3,b4,b5,b6⟩:=BM.ex
 refine wpAny_builtinsFor (by rw [I3.ok.glob]; exact I3.mod.glob.keeps I3.bk) b1 b2 (I3.bk _ _ b3) b4 b5 b6 ?_
 intro h4 hn4 sb4
 refine Calls.spliced_nil ?_
 have q3:=q2 qs' tr'
 have fpP:∀b∈fp,b≠P:=fun b hb z=>by
  have:=(f2 b hb).1
  rw [z,hP] at this; cases this
 have f3:∀b∈fp,FpOk X pins (upd H2 P (.tbl qs')) b:=fun b hb=>⟨by rw [upd_ne (fpP b hb)]; exact (f2 b hb).1,(f2 b hb).2⟩
 have st3:tn 0 s3.heap:=T.keep _ _ _ st2 fun b hb o e=>k3 b o (fpP b hb) e
 generalize upd H2 P (.tbl qs')=H3 at *
 have k4:∀b o,s3.heap.get? b=some o→h4.get? b=some o:=fun b o e=>(sb4.2 b (Nat.ne_of_lt (Heap.lt_size e))).trans (Heap.get?_push_of_some _ e)
 have ho3:∀b∈fp,∃o,s3.heap.get? b=some o:=fun b hb=>by
  obtain ⟨o,e,_⟩:=T.obj _ _ st3 b hb
  exact ⟨o,e⟩
 have sz4:s3.heap.objs.size < h4.objs.size:=hn4.lt
 obtain ⟨oa,hoa⟩:∃oa:Obj,oa = {cls:=.type "generator",data:=.fields #[.int s3.gens.size 0,.str "<genexpr>" (s3.toks + 1),.str (X.env.qual ++ "<genexpr>") (s3.toks + 1 + 1)]}:=⟨_,rfl⟩
 rw [← hoa]
 have ga:(h4.push oa).get? h4.objs.size=some oa:=Heap.get?_push_size _ (by rw [hoa]; rfl)
 have isg:∀h:Heap,h.get? h4.objs.size=some oa→h.IsGen h4.objs.size s3.gens.size:=fun h e=>⟨oa,_,_,e,by rw [hoa],by rw [hoa],by rw [hoa]⟩
 have hn5:(h4.push oa).Ns s3.heap.objs.size (fun y=>if y = ".0" then some (Value.ref it) else none):=hn4.keeps fun b o e=>Heap.get?_push_of_some _ e
 have k5:∀b o,s3.heap.get? b=some o→(h4.push oa).get? b=some o:=fun b o e=>Heap.get?_push_of_some _ (k4 b o e)
 have cde:∃gc:GenState,gc = .fresh (.compStart (.GeneratorExp elt [⟨tg,iter,[],0⟩] scope gpos) 0 (.ref it) .none (gE X scope code s3)):=⟨_,rfl⟩
 obtain ⟨gc,hgc⟩:=cde
 show wpAny _ _ (call (.builtin "all") [.ref h4.objs.size]) _ _ {s3 with gens:=s3.gens.push (.fresh (.compStart (.GeneratorExp elt [⟨tg,iter,[],0⟩] scope gpos) 0 (.ref it) .none (gE X scope code s3))),toks:=s3.toks + 1 + 1 + 1,heap:=h4.push oa}
 rw [← hgc]
 have bare5:AllBare (s3.gens.push gc):=I3.bare.push (by rw [hgc]; rfl)
 obtain ⟨W,⟨m0,w0⟩,turn⟩:=q3
 refine call_function_tree F.kind_all F.plain_all F.entry_all (F.args_all1 _) ?_
 unfold Builtin.«all»
 refine wpAny_bind (m:=oneArg "all" _) (wpAny_pure ?_)
 refine wpAny_bind (wpAny_pyIter_gen (isg _ ga) ?_)
 refine wpAny_pure ⟨plainId_quiet F.plain_all_loop _,?_⟩
 have IY:Inv (gblk X scope (nB X.N os fi) code s3 H3 fp) [(h4.objs.size,oa)] (sB σ os fi) H3 (({s3 with gens:=s3.gens.push gc,toks:=s3.toks + 1 + 1 + 1,heap:=h4.push oa}:Shared).setGen s3.gens.size .running):=by
  have J0:=gblk_inv (os:=os) (code:=code) (t1:=s3.toks + 1 + 1 + 1) B he I3 f3 ho3 k5 hn5 bare5
  refine (J0.pins_of fun p hp=>?_).setGen rfl
  obtain rfl:=List.mem_singleton.mp hp
  refine ⟨ga,I3.hok.fresh (Nat.le_of_lt sz4),Nat.ne_of_gt sz4,fun z=>?_,fun v=>by rw [hoa]; exact fun z=>nomatch z⟩
  have z':h4.objs.size∈frs X.stack:=z
  rcases List.mem_cons.mp (I3.stkSub _ z') with e | e
  ·exact absurd (Nat.lt_trans I3.lt sz4) (by rw [e]; exact Nat.lt_irrefl _)
  ·exact I3.nofs (Nat.le_of_lt sz4) e
 have stat:∀{H':Hp},(∀b∈fp,H' b=none)→∀b∈fp,FpOk (gblk X scope (nB X.N os fi) code s3 H3 fp) [(h4.objs.size,oa)] H' b:=fun hn b hb=>by
  refine ⟨hn b hb,(IY.ok.exf b hb).1,IY.ok.exfs b hb,.inl hb,(IY.ok.exf b hb).2,fun p hp=>?_⟩
  obtain rfl:=List.mem_singleton.mp hp
  obtain ⟨o,e⟩:=ho3 b hb
  exact Nat.ne_of_gt (Nat.lt_trans (Heap.lt_size e) sz4)
 have lg:s3.gens.size < (s3.gens.push gc).size:=by rw [Array.size_push]; omega
 refine all_gen (X:=X) (Y:=gblk X scope (nB X.N os fi) code s3 H3 fp) (Q:=Q) (ps:=[(h4.objs.size,oa)]) (pins:=pins) (σ:=σ) (E:=X.xe) hr.hd hroom (List.mem_singleton.mpr rfl) isg
  (fun s' h' y σ' H' I' kk hb q=>by
   have J:=gblk_out (h':=h') I3 f3 I' kk (bare_set (g:=s3.gens.size) I'.bare hb)
   exact ⟨.bl true,H',J,rfl,q⟩) (fun s' y σ' H' I' hb q=>by
   have J:=gblk_out (h':=s'.heap) I3 f3 I' (fun _ _ e=>e) (bare_set (g:=s3.gens.size) I'.bare hb)
   exact ⟨.bl false,H',J,rfl,q⟩)
  (m0 + 1) gc _ (isg _ ga) (I3.nolimit.keeps k5) (by simp) ?_
 subst hgc
 refine ⟨rfl,seg_gen0 (X:=X) (Y:=gblk X scope (nB X.N os fi) code s3 H3 fp) rfl rfl T (T.keep _ _ _ st3 fun b hb o e=>k5 b o e) ?_⟩
 exact seg_gen (X:=X) (Y:=gblk X scope (nB X.N os fi) code s3 H3 fp) rfl rfl hc hco (hg _ _ _ _) (hel _ _ _ _) T stat turn (m0 + 1) m0 0 _ H3 _ _ (Nat.lt_succ_self _) (by rw [setGen_size]; exact lg) IY (T.keep _ _ _ st3 fun b hb o e=>k5 b o e) (fun b hb=>(f3 b hb).1) w0
end
def BmOf (mg:Str→Option Value) (h:Heap):Prop:=∃(bm:Addr) (ob:Obj),mg "__builtins__" = some (.ref bm)∧bm≠builtinsNs∧h.get? bm=some ob∧ob.cls = .type "module"∧ob.dict=some builtinsNs∧ob.data = .plain
structure OnlyT (Ts:List (Addr × Addr)) (H:Hp):Prop where
 all:∀b,H b=none∨(∃o xs,H b=some (.frz o (.lst xs)))∨(H b=some (.tbl #[])∧∃t∈Ts,t.2=b)
 tab:∀t∈Ts,H t.2=some (.tbl #[])
theorem law_callT {P:Program} {w:World} {K:PySem.W.Frag} {mg mb:Str→Option Value} {CX:CXT} {k:Nat} {fa a:Addr} {fd:FuncData} {x:Str} {sp:Sp} {s:Shared} {vs:List Value} {ns:List Int} {Ts:List (Addr × Addr)}
  (KX:K.In s.heap) (hns:s.heap.Ns mainGlobals mg) (hb:s.heap.Ns builtinsNs mb) (hbb:∀x:Str,x≠"__name__"→mb x=bootBuiltins x) (hlim:s.heap.NoLimit) (hg:s.gens = #[]) (hT:∀t∈Ts,s.heap.TableAt t.1 t.2 #[]) (hKT:∀t∈Ts,K.lookup t.2=none) (hbm:BmOf mg s.heap)
  (ha:s.heap.get? a=some {cls:=.type "list",data:=.seq vs.toArray}) (hi:IntsAre vs ns) (hl:ns.length≤sizeLine) (hr:Room k callerA)
  (F:∀base:Heap,K.In base→base.Ns mainGlobals mg→BmOf mg base→FnOk P w K mg base CX k fa fd [x] sp) (hbind:∀(s:Shared) (u:Value),BindsTo s fd ⟨[u],[]⟩ [(x,u)])
  (hsp:∀H:Hp,OnlyT Ts H→SqL K H a (ns.map V.int)→sp [.ref a] H (fun v _=>v = .bl true) fun _ _ _=>False)
  (hCX:∀H e s',CX [] H s (fun _ _ _=>False) e s'→False) :
  codeAny (model P w) callerA (.call (.ref fa) ⟨[.ref a],[]⟩) (fun r s'=>r = .ok (.ret (.bool true))∧OldK s.heap s'.heap∧s'.os=s.os∧AllBare s'.gens) s:=by
 have rv:=vals_ints hi
 have lenV:=hi.length
 have aP:∀t∈Ts,t.2≠a:=fun t ht z=>by
  have e:=(hT t ht).2
  rw [z,ha] at e
  cases e
 have run:∀H:Hp,OnlyT Ts H→SqL K H a (ns.map V.int)→HOk P w H s.heap→(∀b,H b≠none→b=a∨∃t∈Ts,t.2=b)→(H a≠none→K.lookup a=none)→
   codeAny (model P w) callerA (.call (.ref fa) ⟨[.ref a],[]⟩) (fun r s'=>r = .ok (.ret (.bool true))∧OldK s.heap s'.heap∧s'.os=s.os∧AllBare s'.gens) s:=by
  intro H hO hS hok hA hK
  have lift:∀{b:Addr} {o:Obj},s.heap.get? b=some o→H b=none→(hidT s.heap H).get? b=some o:=fun e n=>hidT_get e n
  have un0:∀{b:Addr} {o:Obj},s.heap.get? b=some o→(∀its n,o.data≠.seq its n)→(∀fs,o.data≠.fields fs)→H b=none:=fun {b o} e d1 d2=>by
   cases q:H b with
   | none=>rfl
   | some u=>
    rcases hA b (by rw [q]; simp) with z | ⟨t,ht,z⟩
    ·subst z; rw [ha] at e; cases e; exact absurd rfl (d1 _ _)
    ·subst z; rw [(hT t ht).2] at e; cases e; exact absurd rfl (d2 _)
  have ns1:∀{b:Addr} {m:Str→Option Value},s.heap.Ns b m→(hidT s.heap H).Ns b m:=fun {b m} ⟨o,es,ep,e,d,r⟩=>⟨o,es,ep,lift e (un0 e (fun _ _ z=>by rw [d] at z; cases z) fun _ z=>by rw [d] at z; cases z),d,r⟩
  have kb:K.In (hidT s.heap H):=fun b o e=>lift (KX b o e) (by
   cases q:H b with
   | none=>rfl
   | some u=>
    rcases hA b (by rw [q]; simp) with z | ⟨t,ht,z⟩
    ·subst z; rw [hK (by rw [q]; simp)] at e; cases e
    ·subst z; rw [hKT t ht] at e; cases e)
  have bmb:BmOf mg (hidT s.heap H):=by
   obtain ⟨bm,ob,b1,b2,b3,b4,b5,b6⟩:=hbm
   exact ⟨bm,ob,b1,b2,lift b3 (un0 b3 (fun _ _ z=>by rw [b6] at z; cases z) fun _ z=>by rw [b6] at z; cases z),b4,b5,b6⟩
  have hM:Mod K mg (hidT s.heap H):=⟨kb,ns1 hns,⟨mb,ns1 hb,hbb⟩,let ⟨mc,h1,h2⟩:=hlim; ⟨mc,ns1 h1,h2⟩⟩
  have e0:Env0 P w K mg (hidT s.heap H) callerA [] s H:=⟨rfl,hM,fun b o e=>of_hidT e,Nat.le_of_eq (hidT_size _ _),trivial,fun b hb=>absurd (show b∈([]:List Addr) from hb) (by simp),hok,.of_eq hg⟩
  refine codeAny_mono ((F _ kb (ns1 hns) bmb).run callerA [] s H ⟨[.ref a],[]⟩ [.ref a] [.ref a] _ _ hr e0 (hbind s (.ref a)) (.cons rfl .nil) (hsp H hO hS)) fun r s' h=>?_
  cases r with
  | error e=>exact (hCX H e s' h).elim
  | ok fl=>
   cases fl with
   | next=>exact False.elim h
   | brk=>exact False.elim h
   | cont=>exact False.elim h
   | ret u=>
    obtain ⟨v,H',os,bare,un,hok',r',q⟩:=h
    have q':v = .bl true:=q
    subst q'
    obtain rfl:u=Value.bool true:=r'
    refine ⟨rfl,⟨fun b o e=>?_,fun b o e=>un.there b o e (by simp)⟩,os,bare⟩
    rcases hO.all b with z | ⟨ob,xs,z⟩ | ⟨z,t,ht,rfl⟩
    ·exact .inl (un.keep b o e z (by intro y; exact absurd (show b∈([]:List Addr) from y) (by simp)) (by simp))
    ·have z2:=un.frzs b ob _ z
     obtain ⟨e1,_⟩:=hok b _ z
     obtain ⟨e2,_⟩:=hok' b _ z2
     rw [e] at e1; cases e1
     exact .inl e2
    ·obtain ⟨more,z2⟩:=un.tbls _ _ z
     have e1:s.heap.get? t.2=some {cls:=.none,data:=.fields #[]}:=hok _ _ z
     have e2:s'.heap.get? t.2=some {cls:=.none,data:=.fields (#[] ++ more)}:=hok' _ _ z2
     rw [e] at e1; cases e1
     exact .inr (.inl ⟨(hT t ht).isCodeTable,rfl,#[],more,rfl,e2⟩)
 have mem:∀b,(∃t∈Ts,t.2=b)∨¬∃t∈Ts,t.2=b:=fun b=>Classical.em _
 have dc:∀b,Decidable (∃t∈Ts,t.2=b):=fun b=>Classical.propDecidable _
 cases hk:K.lookup a with
 | some o=>
  have e:=KX a o hk
  rw [ha] at e
  cases e
  refine run (fun b=>if (∃t∈Ts,t.2=b) then some (.tbl #[]) else none) ⟨fun b=>?_,fun t ht=>if_pos ⟨t,ht,rfl⟩⟩ (.inr ⟨_,vs.toArray,_,hk,rfl,rfl,rfl,by rw [List.size_toArray,lenV]; exact hl,by simpa using rv⟩) (fun b u z=>?_) (fun b z=>?_) fun z=>?_
  ·rcases mem b with y | y
   ·exact .inr (.inr ⟨if_pos y,y⟩)
   ·exact .inl (if_neg y)
  ·rcases mem b with y | y
   ·have z':=(if_pos y).symm.trans z
    cases z'
    obtain ⟨t,ht,rfl⟩:=y
    exact (hT t ht).2
   ·have z':=(if_neg y).symm.trans z
    cases z'
  ·rcases mem b with y | y
   ·exact .inr y
   ·exact absurd (if_neg y) z
  ·refine absurd (if_neg ?_) z
   rintro ⟨t,ht,e⟩
   exact aP t ht e
 | none=>
  refine run (fun b=>if b=a then some (.frz {cls:=.type "list",data:=.seq vs.toArray} (.lst (ns.map V.int))) else if (∃t∈Ts,t.2=b) then some (.tbl #[]) else none) ⟨fun b=>?_,fun t ht=>?_⟩ (.inl (.inr ⟨{cls:=.type "list",data:=.seq vs.toArray},if_pos rfl⟩)) (fun b u z=>?_) (fun b z=>?_) fun _=>hk
  ·by_cases hb:b=a
   ·exact .inr (.inl ⟨_,_,if_pos hb⟩)
   ·rcases mem b with y | y
    ·exact .inr (.inr ⟨(if_neg hb).trans (if_pos y),y⟩)
    ·exact .inl ((if_neg hb).trans (if_neg y))
  ·exact (if_neg (aP t ht)).trans (if_pos ⟨t,ht,rfl⟩)
  ·by_cases hb:b=a
   ·have z':=(if_pos hb).symm.trans z
    cases z'
    subst hb
    exact ⟨ha,by rw [List.length_map]; exact hl,vs,_,rv,ha⟩
   ·rcases mem b with y | y
    ·have z':=((if_neg hb).trans (if_pos y)).symm.trans z
     cases z'
     obtain ⟨t,ht,rfl⟩:=y
     exact (hT t ht).2
    ·have z':=((if_neg hb).trans (if_neg y)).symm.trans z
     cases z'
  ·by_cases hb:b=a
   ·exact .inl hb
   ·rcases mem b with y | y
    ·exact .inr y
    ·exact absurd ((if_neg hb).trans (if_neg y)) z
theorem walk_ofT {l:PySem.W.OpenLaw} {n k:Nat} {q:Program} {loose:List Str} {XP:(Str→Option Value)→Heap→Prop} {YP:World→Heap→Prop} {d:DefRec} {K:Params→PySem.W.Frag} {CX:World→CXT} {sp:World→Sp} {x:Str} {Ts:World→List (Addr × Addr)}
  (hn:l.most=some n) (hn2:n≤sizeLine) (hdf:d.params.defaults=[]) (hr:Room k callerA)
  (hY:∀(w:World) (h:Heap),YP w h→(K w.params).In h)
  (hT:∀(w:World) (h:Heap) (lo:List Str) (mean:ExcName→Option Value) (mg mb:Str→Option Value),(K w.params).In h→Top q lo mean mg mb h→∀t∈Ts w,h.TableAt t.1 t.2 #[]) (hKT:∀(w:World),∀t∈Ts w,(K w.params).lookup t.2=none)
  (F:∀(w:World) (mg:Str→Option Value) (fa:Addr) (h:Heap),(K w.params).In h→h.Ns mainGlobals mg→mg d.name=some (.ref fa)→
   ∃fd:FuncData,(∀(s:Shared) (u:Value),BindsTo s fd ⟨[u],[]⟩ [(x,u)])∧
    ∀base:Heap,(K w.params).In base→base.Ns mainGlobals mg→BmOf mg base→FnOk l.prog w (K w.params) mg base (CX w) k fa fd [x] (sp w))
  (hsp:∀(w:World) (H:Hp) (a:Addr) (ns:List Int),ns.length≤n→OnlyT (Ts w) H→SqL (K w.params) H a (ns.map V.int)→sp w [.ref a] H (fun v _=>v = .bl true) fun _ _ _=>False)
  (hCX:∀(w:World) (H:Hp) (s:Shared) (e:Value) (s':Shared),CX w [] H s (fun _ _ _=>False) e s'→False) :
  PySem.W.WalkO q loose XP YP l.row.toRowW d [] (fun f vs=>PySem.call f vs):=by
 refine Att.attach_call hn hdf fun w s₀ s₁ mg mb fa o pm cd doc a vs ns G Y ho hd hcd hmg hobj hints hlen hg=>?_
 have KX:=hY w _ Y
 obtain ⟨fd,hb,hF⟩:=F w mg fa _ KX G.T.g hmg
 exact law_callT KX G.T.g G.T.b G.T.builtins G.T.nolimit hg (hT w _ _ _ _ _ KX G.T) (hKT w) G.T.bmain hobj hints (Nat.le_trans hlen hn2) hr hF hb (fun H hO hS=>hsp w H a ns hlen hO hS) fun H e s'=>hCX w H s₁ e s'
def Its (x:Str):It:=⟨fun i _=>i < x.cps.size,fun i H v H'=>H'=H∧∃c,x.cps[i]? = some c∧v = .str ⟨#[c]⟩,fun i _=>i=x.cps.size⟩
theorem turn_str {P:Program} {w:World} {K:PySem.W.Frag} {tg:Expr} {it:Addr} {x:Str} {t:Tok} {ty:String} (hn:["enumerate","zip","dict_itemiterator","dict_reverseitemiterator","odict_iterator","itertools.zip_longest","itertools.pairwise"].contains ty=false)
  (W:∀A':Around,A'.handled=none→Walks P w A' it [it] [it] x.cps.size (SignAt x) (fun i h=>h.IsStrIter it ty x t i))
  (hself:∀(A:Around) (i:Nat) (s:Shared) (Q:Value→Shared→Prop) (E:Value→Shared→Prop),s.heap.IsStrIter it ty x t i→Q (.ref it) s→wpAny (model P w) A (pyIter (.ref it)) Q E s):Turn P w K tg (Its x) [it] it (fun i h=>h.IsStrIter it ty x t i) where
 mem:=by simp
 obj:=fun i h st b hb=>by
  have e:b=it:=by simpa using hb
  subst e
  obtain ⟨o,ho,_,d⟩:=st
  exact ⟨o,ho,fun v z=>by rw [d] at z; cases z⟩
 keep:=fun i h h' st k=>by
  obtain ⟨o,ho,r⟩:=st
  exact ⟨o,k it (by simp) o ho,r⟩
 item:=by
  intro X hP hw hK hc i pins s σ H E I hf st hg
  subst hP hw hK
  obtain ⟨f0,f1,f2,f3,f4,f5⟩:=hf it (by simp)
  refine (W X.A (I.ok.hd hc)).item i s _ _ hg st fun v h' tk hv st' kk=>?_
  obtain ⟨c,u,hcu,rfl⟩:=hv
  have I1:Inv X pins σ H {s with heap:=h',toks:=tk}:=I.turned (fun b o hb e=>kk b o (by simpa using hb) e) f0 f1 f3 f4 f5
  obtain ⟨o,ho,hcl,d⟩:=id st'
  exact ⟨_,rfl,go_of (s:={s with heap:=h',toks:=tk}) ho hcl d hn ⟨.str ⟨#[c]⟩,H,I1,⟨u,rfl⟩,⟨rfl,c,hcu,rfl⟩,st',fun b hb=>(hf b hb).1⟩⟩
 done:=by
  intro X hP hw hK hc i pins s σ H E I hf st hg
  subst hP hw hK
  obtain ⟨f0,f1,f2,f3,f4,f5⟩:=hf it (by simp)
  have hi:i=x.cps.size:=hg
  subst hi
  exact (W X.A (I.ok.hd hc)).done s _ _ st fun h' tk kk=>⟨rfl,I.turned (fun b o hb e=>kk b o (by simpa using hb) e) f0 f1 f3 f4 f5⟩
 self:=fun A i s Q E st h=>hself A i s Q E st h
def iStr (tl:TE):TI:=fun σ H R=>tl σ H fun v H1=>∃x,v = .str x∧R (Its x) H1
section
variable {X:Cx} {tg:Expr}
theorem pi_str {l:Expr} {tl:TE} (hl:PE X l tl):PI X tg l (iStr tl):=by
 intro pins s σ H R I h
 refine thn (hl pins s σ H _ I h) fun v s1 ⟨y,H1,I1,r1,x,e,q⟩=>?_
 subst e
 obtain ⟨t,rfl⟩:=r1
 have fin:∀b∈[s1.heap.objs.size],FpOk X pins H1 b:=fun b hb=>by
  have e:b=s1.heap.objs.size:=by simpa using hb
  subst e
  exact I1.fpOk (Nat.le_refl _) (I1.hok.fresh (Nat.le_refl _))
 cases ha:x.cps.all (· < 128)
 ·refine wpAny_pyIter_wide ha ?_
  exact ⟨s1.heap.objs.size,[s1.heap.objs.size],_,_,H1,rfl,I1.kept (t':=s1.toks) fun b o e=>Heap.get?_push_of_some _ e,turn_str (by decide) (fun A' hA=>Walks.strWide hA _ x t) (fun A i s Q E st h=>wpAny_pyIter_striter_wide st h),⟨_,Heap.get?_push_size _ rfl,rfl,rfl⟩,fin,q⟩
 ·refine wpAny_pyIter_ascii ha ?_
  exact ⟨s1.heap.objs.size,[s1.heap.objs.size],_,_,H1,rfl,I1.kept (t':=s1.toks) fun b o e=>Heap.get?_push_of_some _ e,turn_str (by decide) (fun A' hA=>Walks.strAscii hA _ x t) (fun A i s Q E st h=>wpAny_pyIter_striter_ascii st h),⟨_,Heap.get?_push_size _ rfl,rfl,rfl⟩,fin,q⟩
end
def cdOf (K:PySem.W.Frag) (n:Str):Addr:=match PySem.W.nsIn K mainGlobals n with
 | some (some (.ref f))=>(match K.lookup f with
  | some ⟨_,_,.func fd,_⟩=>(match fd.code with
   | .ref c=>c
   | _=>0)
  | _=>0)
 | _=>0
def tbOf (K:PySem.W.Frag) (n:Str):Addr:=match K.lookup (cdOf K n) with
 | some ⟨_,_,.fields vs,_⟩=>(match (vs[11]?:Option Value) with
  | some (.ref T)=>T
  | _=>0)
 | _=>0
structure CodeN (K:PySem.W.Frag) (n:Str) (f c T:Addr) (fd:FuncData):Prop where
 a:PySem.W.nsIn K mainGlobals n=some (some (.ref f))
 l:∃oc od sl,K.lookup f=some ⟨oc,od,.func fd,sl⟩
 hc:fd.code = .ref c
 lc:∃(od:Option Addr) (vs:Array Value) (sl:Array (Option Value)) (file:Str) (tf:Tok) (flags:Int) (tk:Tok) (inF:Bool) (text:Int) (tt:Tok),K.lookup c=some ⟨.type "code",od,.fields vs,sl⟩∧vs[11]? = some (.ref T)∧vs.getD 18 .none = .str file tf∧
  vs.getD 7 .none = .int flags tk∧vs.getD 9 .none = .bool inF∧vs.getD 10 .none = .int text tt
 ne:c≠T
section
variable {K:PySem.W.Frag} {n:Str} {f c T:Addr} {fd:FuncData}
theorem CodeN.cd (C:CodeN K n f c T fd):cdOf K n=c:=by
 obtain ⟨oc,od,sl,l⟩:=C.l
 unfold cdOf
 rw [C.a]
 simp only [l,C.hc]
theorem CodeN.tb (C:CodeN K n f c T fd):tbOf K n=T:=by
 obtain ⟨od,vs,sl,_,_,_,_,_,_,_,l,h11,_⟩:=C.lc
 unfold tbOf
 rw [C.cd]
 simp only [l,h11]
theorem CodeN.ck (C:CodeN K n f c T fd):CodeK K c T:=by
 obtain ⟨od,vs,sl,file,tf,flags,tk,inF,text,tt,l,h11,r⟩:=C.lc
 exact ⟨⟨_,vs,file,tf,flags,tk,inF,text,tt,l,rfl,rfl,h11,r⟩,C.ne⟩
theorem CodeN.tab {q:Program} {lo:List Str} {mean:ExcName→Option Value} {mg mb:Str→Option Value} {h:Heap} {d:DefRec} (C:CodeN K n f c T fd) (KX:K.In h) (Tp:Top q lo mean mg mb h) (hf:(recsOf q).find? (fun e=>e.name == n)=some d):h.TableAt (cdOf K n) (tbOf K n) #[]:=by
 rw [C.cd,C.tb]
 have hn:d.name=n:=beq_iff_eq.mp (List.find?_some (p:=fun e:DefRec=>e.name == n) hf)
 obtain ⟨a',o',fd',c',P',h1,h2,h3,h4,h5,h6⟩:=Tp.tab d (List.mem_of_find?_eq_some hf)
 have hm:=PySem.W.mg_of KX Tp.g C.a
 rw [hn,hm] at h1; cases h1
 obtain ⟨oc,od,sl,l⟩:=C.l
 rw [KX _ _ l] at h2; cases h2
 cases h3
 rw [C.hc] at h4; cases h4
 obtain ⟨od2,vs,sl2,_,_,_,_,_,_,_,l2,h11,_⟩:=C.lc
 obtain ⟨⟨o3,vs3,e1,_,e2,e3⟩,_⟩:=id h6
 rw [KX _ _ l2] at e1; cases e1
 cases e2
 rw [h11] at e3; cases e3
 exact h6
theorem codeN_mk {oc:Value} {od odc:Option Addr} {sl slc:Array (Option Value)} {vs:Array Value} {file:Str} {tf:Tok} {flags:Int} {tk:Tok} {inF:Bool} {text:Int} {tt:Tok} (a:PySem.W.nsIn K mainGlobals n=some (some (.ref f))) (l:K.lookup f=some ⟨oc,od,.func fd,sl⟩) (hc:fd.code = .ref c)
  (lc:K.lookup c=some ⟨.type "code",odc,.fields vs,slc⟩) (h11:vs[11]? = some (.ref T)) (h18:vs.getD 18 .none = .str file tf) (h7:vs.getD 7 .none = .int flags tk) (h9:vs.getD 9 .none = .bool inF) (h10:vs.getD 10 .none = .int text tt) (ne:c≠T):CodeN K n f c T fd:=
 ⟨a,⟨oc,od,sl,l⟩,hc,⟨odc,vs,slc,file,tf,flags,tk,inF,text,tt,lc,h11,h18,h7,h9,h10⟩,ne⟩
end
abbrev TB:=St→Hp→(St→Hp→Prop)→Prop
abbrev Fi:=PySem.Fin
def PB (Y:Cx) (body:Sem Fi→Sem Fi) (t:TB):Prop:=
 ∀(pins:List (Addr × Obj)) (s:Shared) (σ:St) (H:Hp) (N:St→Hp→Prop) (k:Sem Fi) (R:Fi→Shared→Prop),Inv Y pins σ H s→t σ H N→
  (∀σ' H' s',Inv Y pins σ' H' s'→N σ' H'→wpAny (model Y.prog Y.w) Y.A k R F0 s')→wpAny (model Y.prog Y.w) Y.A (body k) R F0 s
def turnOf (tg:Expr) (p:Pos) (ifs:List Expr) (it:Value) (env:Env) (body:Sem Fi→Sem Fi) (k:Sem Fi):Sem Fi:=do
 standAt p
 match ← pyNext it with
 | none=>pure (.done .next)
 | some v=>
  letOwnedTupleGo tg it v
  assign tg env v
  let mut ok:=true
  for c in ifs do
   if ok then ok ← isTrue c env (eval c env)
  if ok then body k else k
def LoopRule (P:Program) (w:World) (A:Around) (e:Expr) (d:Nat):Prop:=∀(it acc:Value) (env:Env) (R:Result→Shared→Prop) (I:Nat→Shared→Prop),
 (∀n s,I n s→wpAny (model P w) A (compTurn e d it acc env) (fun fin s'=>match fin with | .done f=>R (.ok f) s' | .again c'=>c' = .compLoop e d it acc env∧∃m,m < n∧I m s') F0 s)→
 ∀n s,I n s→codeAny (model P w) A (.compLoop e d it acc env) R s
def StartRule (P:Program) (w:World) (A:Around) (e:Expr) (d:Nat):Prop:=∀(it acc:Value) (env:Env) (R:Result→Shared→Prop) (s:Shared),
 codeAny (model P w) A (.compLoop e d it acc env) R s→wpAny (model P w) A (pyIter it) (fun it' s'=>codeAny (model P w) A (.compLoop e d it' acc env) R s') F0 s→codeAny (model P w) A (.compStart e d it acc env) R s
section
variable {P:Program} {w:World} {A:Around} {elt kx vx:Expr} {gens:List Comprehension} {scope:Scope} {pos:Pos} {d:Nat} {g:Comprehension}
theorem loop_list:LoopRule P w A (.ListComp elt gens scope pos) d:=by
 intro it acc env R I turn n s h
 refine codeAny_loop rfl I (fun n s hI=>?_) n h
 show wpAny _ A ((compTurn (.ListComp elt gens scope pos) d it acc env).onRaise (fun x=>do noteFrame x env; theTreesLotGoes x)) _ _ s
 exact wpAny_noted (of_F0 (turn n s hI) fun _ _ z=>z)
theorem loop_set:LoopRule P w A (.SetComp elt gens scope pos) d:=by
 intro it acc env R I turn n s h
 refine codeAny_loop rfl I (fun n s hI=>?_) n h
 show wpAny _ A ((compTurn (.SetComp elt gens scope pos) d it acc env).onRaise (fun x=>do noteFrame x env; theTreesLotGoes x)) _ _ s
 exact wpAny_noted (of_F0 (turn n s hI) fun _ _ z=>z)
theorem start_any {e:Expr} {it acc:Value} {env:Env} {R:Result→Shared→Prop} {s:Shared} {E:Value→Shared→Prop} (hg:(clausesOf e)[d]? = some g) (ha:g.is_async=0)
  (h0:codeAny (model P w) A (.compLoop e d it acc env) R s) (h:wpAny (model P w) A (pyIter it) (fun it' s'=>codeAny (model P w) A (.compLoop e d it' acc env) R s') F0 s) :
  wpAny (model P w) A (compStart e d it acc env) (fun fin s'=>match fin with | .done f=>R (.ok f) s' | .again c'=>c'.quiet=true∧codeAny (model P w) A c' R s') E s:=by
 unfold compStart
 rw [hg]
 simp only [Option.elim,ha]
 show wpAny _ _ (ask >>= _) _ _ s
 refine wpAny_bind (wpAny_askSetting (wpAny_ite ?_))
 split
 ·first
   | exact wpAny_bind (wpAny_pure (wpAny_pure (And.intro rfl h0)))
   | exact wpAny_pure (And.intro rfl h0)
 ·refine wpAny_bind (wpAny_rule ?_)
  exact wpAny_bind (wpAny_standAt (wpAny_bind (of_F0 h fun it' s' h'=>wpAny_pure (And.intro rfl h'))))
theorem start_list (hg:gens[d]? = some g) (ha:g.is_async=0):StartRule P w A (.ListComp elt gens scope pos) d:=by
 intro it acc env R s h0 h
 refine codeAny_of_tree ?_
 show wpAny _ _ ((compStart (.ListComp elt gens scope pos) d it acc env).onRaise (fun x=>do noteFrame x env; standAt theWindowsPlace)) _ _ s
 exact wpAny_notedAt (start_any (e:=.ListComp elt gens scope pos) hg ha h0 h)
theorem start_set (hg:gens[d]? = some g) (ha:g.is_async=0):StartRule P w A (.SetComp elt gens scope pos) d:=by
 intro it acc env R s h0 h
 refine codeAny_of_tree ?_
 show wpAny _ _ ((compStart (.SetComp elt gens scope pos) d it acc env).onRaise (fun x=>do noteFrame x env; standAt theWindowsPlace)) _ _ s
 exact wpAny_notedAt (start_any (e:=.SetComp elt gens scope pos) hg ha h0 h)
end
def LR (J:It) (g:TG) (tt:TT) (tb:TB) (σ:St) (H:Hp) (N:St→Hp→Prop):Prop:=∃W:Nat→Nat→St→Hp→Prop,(∃m,W 0 m σ H)∧∀i m σ2 H2,W i m σ2 H2→
 (J.stop i H2∧N σ2 H2)∨(J.go i H2∧∀x H3,J.yld i H2 x H3→g x σ2 H3 fun σ4 H4=>tt σ4 H4 fun ok H5=>
  if ok=true then tb σ4 H5 (fun σ6 H6=>∃m',m' < m∧W (i + 1) m' σ6 H6) else ∃m',m' < m∧W (i + 1) m' σ4 H5)
section
variable {Y:Cx} {e tg iter:Expr} {ifs:List Expr} {d:Nat} {p:Pos} {body:Sem Fi→Sem Fi} {it:Addr} {acc:Value} {J:It} {g:TG} {tt:TT} {tb:TB} {wi:TI} {fp:List Addr} {tn:Nat→Heap→Prop} {pins:List (Addr × Obj)} {R:Result→Shared→Prop} {N:St→Hp→Prop} {s:Shared} {σ:St} {H:Hp}
theorem loop_any (hL:LoopRule Y.prog Y.w Y.A e d) (hc:Y.calm=true) (hx:Y.xe=F0) (hT:compTurn e d (.ref it) acc Y.env=turnOf tg p ifs (.ref it) Y.env body (again (.compLoop e d (.ref it) acc Y.env)))
  (hg:PG Y tg g) (ht:PTs Y ifs tt) (hb:PB Y body tb) (T:Turn Y.prog Y.w Y.K tg J fp it tn) (stat:∀{H':Hp},(∀b∈fp,H' b=none)→∀b∈fp,FpOk Y pins H' b)
  (I:Inv Y pins σ H s) (st:tn 0 s.heap) (fr:∀b∈fp,H b=none) (q:LR J g tt tb σ H N) (hR:∀σ' H' s',Inv Y pins σ' H' s'→N σ' H'→R (.ok .next) s') :
  codeAny (model Y.prog Y.w) Y.A (.compLoop e d (.ref it) acc Y.env) R s:=by
 obtain ⟨W,⟨m0,w0⟩,turn⟩:=q
 refine hL _ _ _ _ (fun n s'=>∃i σ' H',Inv Y pins σ' H' s'∧tn i s'.heap∧(∀b∈fp,H' b=none)∧W i n σ' H') ?_ m0 s ⟨0,σ,H,I,st,fr,w0⟩
 rintro n s5 ⟨i,σ5,H5,I5,t5,fr5,w5⟩
 rw [hT]
 unfold turnOf
 refine wpAny_bind (wpAny_standAt (wpAny_bind ?_))
 rcases turn i n σ5 H5 w5 with ⟨stop,qn⟩ | ⟨go,step⟩
 ·refine of_F0 (T.done Y rfl rfl rfl hc i pins s5 σ5 H5 F0 I5 (stat fr5) t5 stop) fun r s6 ⟨hr,I6⟩=>?_
  subst hr
  exact wpAny_pure (hR _ _ _ I6 qn)
 ·refine of_F0 (T.item Y rfl rfl rfl hc i pins s5 σ5 H5 F0 I5 (stat fr5) t5 go) fun r s6 ⟨u,hr,h6⟩=>?_
  subst hr
  refine wpAny_bind (of_F0 h6 fun _ s7 ⟨x,H7,I7,r7,y7,t7,fr7⟩=>?_)
  have I7':=I7.pinned (stat fr7) (T.obj _ _ t7)
  have a1:=hg _ s7 σ5 H7 x u _ I7' r7 (step x H7 y7)
  rw [hx] at a1
  refine wpAny_bind (of_F0 a1 fun _ s8 ⟨σ8,H8,I8,q8⟩=>?_)
  have a2:=ht _ s8 σ8 H8 _ I8 q8
  rw [hx] at a2
  refine wpAny_bind (of_F0 a2 fun ok s9 ⟨H9,I9,q9⟩=>?_)
  have again:∀{s':Shared} {σ':St} {H':Hp} {m:Nat},Inv Y (pins ++ pinsAt fp s7.heap) σ' H' s'→W (i + 1) m σ' H'→
    ∃i σ' H',Inv Y pins σ' H' s'∧tn i s'.heap∧(∀b∈fp,H' b=none)∧W i m σ' H':=fun {s' σ' H' m} J w=>by
   refine ⟨i + 1,σ',H',J.unpinned,T.keep _ _ _ t7 fun b hb o e=>(J.pin (b,o) (List.mem_append_right _ (List.mem_append_right _ (mem_pinsAt hb e)))).1,fun b hb=>?_,w⟩
   obtain ⟨o,e,d⟩:=T.obj _ _ t7 b hb
   exact (J.pin (b,o) (List.mem_append_right _ (List.mem_append_right _ (mem_pinsAt hb e)))).2.1
  cases ok with
  | false=>
   obtain ⟨m',lt,w9⟩:=(show ∃m',m' < n∧W (i + 1) m' σ8 H9 from q9)
   exact wpAny_pure ⟨rfl,m',lt,again I9 w9⟩
  | true=>
   exact hb _ s9 σ8 H9 _ _ _ I9 q9 fun σA HA sA IA ⟨m',lt,wA⟩=>wpAny_pure ⟨rfl,m',lt,again IA wA⟩
def inBody (e:Expr) (d:Nat) (iter:Expr) (acc:Value) (env:Env) (k:Sem Fi):Sem Fi:=do
 let x ← eval iter env
 standAt iter.pos
 let x ← foldedSetIterable iter env x
 let _ ← runOwn (.compStart e d (← holding [x] (pyIter x)) acc env) env
 k
def tIn (wi:TI) (g:TG) (tt:TT) (tb:TB):TB:=fun σ H N=>wi σ H fun J H1=>LR J g tt tb σ H1 N
theorem pb_in (hL:LoopRule Y.prog Y.w Y.A e d) (hS:StartRule Y.prog Y.w Y.A e d) (hc:Y.calm=true) (hx:Y.xe=F0) (hT:∀it:Addr,compTurn e d (.ref it) acc Y.env=turnOf tg p ifs (.ref it) Y.env body (again (.compLoop e d (.ref it) acc Y.env)))
  (hi:PI Y tg iter wi) (hg:PG Y tg g) (ht:PTs Y ifs tt) (hb:PB Y body tb) (hs:∀x,foldedSetIterable iter Y.env x=pure x:=by intro _; rfl):PB Y (inBody e d iter acc Y.env) (tIn wi g tt tb):=by
 intro pins s σ H N k R I h hk
 unfold inBody
 have a1:=hi pins s σ H _ I h
 rw [hx] at a1
 refine wpAny_bind (of_F0 a1 fun v s1 h1=>wpAny_bind (wpAny_standAt (wpAny_bind (wpAny_of_eq (hs v) (wpAny_bind (wpAny_holding (of_F0 h1 fun itv s2 h2=>?_)))))))
 obtain ⟨it,fp,tn,J,H2,rfl,I2,T,st2,f2,q⟩:=h2
 refine wpAny_bind (wpAny_runOwn ?_)
 have lp:codeAny (model Y.prog Y.w) Y.A (.compLoop e d (.ref it) acc Y.env) (fun r s'=>match r with | .ok f=>wpAny (model Y.prog Y.w) Y.A k R F0 s' | .error e=>cameBackBy (model Y.prog Y.w) Y.A Y.env F0 e s') s2:=
  loop_any hL hc hx (hT it) hg ht hb T (fun hn b hb=>⟨hn b hb,(f2 b hb).2⟩) I2 st2 (fun b hb=>(f2 b hb).1) q fun σ' H' s' I' n'=>hk σ' H' s' I' n'
 exact hS _ _ _ _ _ lp (T.self _ 0 _ _ _ st2 lp)
def listBody (elt:Expr) (acc:Value) (env:Env) (k:Sem Fi):Sem Fi:=(do let _ ← call (.builtin "list.append") [acc,← eval elt env]) >>= fun _=>k
def tEmL (D:Addr) (te:TE):TB:=fun σ H N=>te σ H fun v H6=>∃xs,H6 D=some (.lst xs)∧xs.length < sizeLine∧N σ (upd H6 D (.lst (xs ++ [v])))
theorem pb_list {elt:Expr} {te:TE} {D:Addr} (hx:Y.xe=F0) (hel:PE Y elt te):PB Y (listBody elt (.ref D) Y.env) (tEmL D te):=by
 intro pins s σ H N k R I h hk
 have a1:=hel pins s σ H _ I h
 rw [hx] at a1
 refine wpAny_bind (wpAny_bind (of_F0 a1 fun y sA ⟨v,HA,IA,rA,xs,hxs,hz,wA⟩=>wpAny_bind ?_))
 have a2:=mt_append pins sA σ HA (.ref D) [v] (.ref D) [y] (fun _ H'=>N σ H') IA rfl (.cons rA .nil) ⟨D,xs,v,rfl,rfl,hxs,hz,wA⟩
 rw [hx] at a2
 exact of_F0 a2 fun _ sB' ⟨_,HB,IB,_,wB⟩=>wpAny_pure (hk σ HB sB' IB wB)
end
def NewRule (X:Cx) (mk:Sem Value) (o0:Addr→HO):Prop:=∀(pins:List (Addr × Obj)) (s:Shared) (σ:St) (H:Hp) (E:Value→Shared→Prop) (Q:Value→Shared→Prop),Inv X pins σ H s→
 (∀s3:Shared,(∀b o,s.heap.get? b=some o→s3.heap.get? b=some o)→Inv X pins σ (upd H s.heap.objs.size (o0 s.heap.objs.size)) s3→Q (.ref s.heap.objs.size) s3)→wpAny (model X.prog X.w) X.A mk Q E s
theorem new_list {X:Cx}:NewRule X (newList []) (fun _=>.lst []):=by
 intro pins s σ H E Q I h
 refine wpAny_newObj_type ?_
 exact h _ (fun b o e=>Heap.get?_push_of_some _ e) (I.laid (t':=s.toks) (fun b u e=>Heap.get?_push_of_some _ e) (Nat.le_refl _) ⟨Nat.zero_le _,[],0,.nil,Heap.get?_push_size _ rfl⟩)
section
variable {X:Cx} {e tg iter:Expr} {ifs:List Expr} {scope esc:Scope} {pos:Pos} {N os:List Str} {fi:List Nat} {wi:TI} {g:TG} {tt:TT} {tb:Addr→TB} {body:Addr→Env→Sem Fi→Sem Fi} {o0:Addr→HO} {mk:Sem Value} {p:Pos}
theorem comp_coreG {pins:List (Addr × Obj)} {σ:St} {H:Hp} {s:Shared} {E:Value→Shared→Prop} {it:Addr} {fp:List Addr} {tn:Nat→Heap→Prop} {J:It} {Q:VK} {RR:Value→Addr→Result→Shared→Prop} (hc:X.calm=true) (hN:X.N=N) (he:X.env.scope=esc) (B:BlkOk esc scope N fi)
  (hL:LoopRule X.prog X.w X.A e 0) (hS:StartRule X.prog X.w X.A e 0) (hT:∀(it D:Addr) (env:Env),compTurn e 0 (.ref it) (.ref D) env=turnOf tg p ifs (.ref it) env (body D env) (again (.compLoop e 0 (.ref it) (.ref D) env)))
  (hmk:NewRule X mk o0)
  (hg:∀s H fp,PG (blk X scope (nB N os fi) s H fp) tg g) (ht:∀s H fp,PTs (blk X scope (nB N os fi) s H fp) ifs tt) (hb:∀D s H fp,PB (blk X scope (nB N os fi) s H fp) (body D (blk X scope (nB N os fi) s H fp).env) (tb D))
  (I:Inv X pins σ H s) (T:Turn X.prog X.w X.K tg J fp it tn) (st:tn 0 s.heap) (hf:∀b∈fp,FpOk X pins H b) (q:∀l,H l=none→LR J g tt (tb l) (sB σ os fi) (upd H l (o0 l)) fun _ H'=>Q (.ref l) H')
  (hRR:∀D s3 H3 s' σ' H',Inv X pins σ H3 s3→(∀b∈fp,FpOk X pins H3 b)→Inv (blk X scope (nB N os fi) s3 H3 fp) [] σ' H' s'→Q (.ref D) H'→RR (.ref D) s3.heap.objs.size (.ok .next) s') :
  wpAny (model X.prog X.w) X.A mk (fun acc s3=>wpAny (model X.prog X.w) X.A (newFunctionEnv scope X.env.globals (clOf X.env scope.names []) [] X.env.qual none .none (some X.env)) (fun cenv s4=>
   codeAny (model X.prog X.w) X.A (.compStart e 0 (.ref it) acc {cenv with scope:=relabel scope X.env}) (RR acc cenv.locals) s4) E s3) E s:=by
 subst hN
 have fresh:H s.heap.objs.size=none:=I.hok.fresh (Nat.le_refl _)
 have old:∀b∈fp,∃o,s.heap.get? b=some o:=fun b hb=>by
  obtain ⟨o,e,_⟩:=T.obj _ _ st b hb
  exact ⟨o,e⟩
 refine hmk pins s σ H E _ I fun s3 k3 I3=>?_
 have hf3:∀b∈fp,FpOk X pins (upd H s.heap.objs.size (o0 s.heap.objs.size)) b:=fun b hb=>by
  obtain ⟨o,e⟩:=old b hb
  exact ⟨by rw [upd_ne (Nat.ne_of_lt (Heap.lt_size e))]; exact (hf b hb).1,(hf b hb).2⟩
 have st3:tn 0 s3.heap:=T.keep _ _ _ st fun b hb o e=>k3 b o e
 have q3:=q _ fresh
 have ho3:∀b∈fp,∃o,s3.heap.get? b=some o:=fun b hb=>by
  obtain ⟨o,e⟩:=old b hb
  exact ⟨o,k3 b o e⟩
 generalize s.heap.objs.size=D at *
 generalize upd H D (o0 D)=H3 at *
 refine wpAny_newFunctionEnv B.nocell (by intro y hy; simp at hy) (fun h4 hn4 sb4=>?_) B.kind
 have k4:∀b o,s3.heap.get? b=some o→h4.get? b=some o:=fun b o e=>(sb4.2 b (Nat.ne_of_lt (Heap.lt_size e))).trans (Heap.get?_push_of_some _ e)
 have I4:=blk_inv (os:=os) (t1:=s3.toks + ([]:List (Str × Value)).length) B he I3 hf3 ho3 k4 hn4
 have st4:tn 0 h4:=T.keep _ _ _ st3 fun b hb o e=>k4 b o e
 have fpB:∀{H':Hp},(∀b∈fp,H' b=none)→∀b∈fp,FpOk (blk X scope (nB X.N os fi) s3 H3 fp) [] H' b:=fun hn b hb=>by
  refine ⟨hn b hb,(I4.ok.exf b hb).1,I4.ok.exfs b hb,.inl hb,(I4.ok.exf b hb).2,fun p hp=>nomatch hp⟩
 have lp:=loop_any (Y:=blk X scope (nB X.N os fi) s3 H3 fp) (R:=RR (.ref D) s3.heap.objs.size) hL hc rfl (hT it D _) (hg s3 H3 fp) (ht s3 H3 fp) (hb D s3 H3 fp) T fpB I4 st4 (fun b hb=>(hf3 b hb).1) q3
  fun σ' H' s' I' n'=>hRR D s3 H3 s' σ' H' I3 hf3 I' n'
 exact hS _ _ _ _ _ lp (T.self _ 0 _ _ _ st4 lp)
def tCG (o0:Addr→HO) (os:List Str) (fi:List Nat) (wi:TI) (g:TG) (tt:TT) (tb:Addr→TB):TE:=fun σ H Q=>wi σ H fun J H1=>∀l,H1 l=none→LR J g tt (tb l) (sB σ os fi) (upd H1 l (o0 l)) fun _ H'=>Q (.ref l) H'
theorem pe_compG {gs:List Comprehension} {p':Pos} (hev:eval e X.env=comprehension e scope X.env p' mk false (eval iter X.env)) (hcl:clausesOf e=⟨tg,iter,ifs,0⟩ :: gs) (hc:X.calm=true) (hN:X.N=N) (he:X.env.scope=esc) (B:BlkOk esc scope N fi)
  (hL:LoopRule X.prog X.w X.A e 0) (hS:StartRule X.prog X.w X.A e 0) (hT:∀(it D:Addr) (env:Env),compTurn e 0 (.ref it) (.ref D) env=turnOf tg p ifs (.ref it) env (body D env) (again (.compLoop e 0 (.ref it) (.ref D) env)))
  (hmk:NewRule X mk o0) (hi:PI X tg iter wi)
  (hg:∀s H fp,PG (blk X scope (nB N os fi) s H fp) tg g) (ht:∀s H fp,PTs (blk X scope (nB N os fi) s H fp) ifs tt) (hb:∀D s H fp,PB (blk X scope (nB N os fi) s H fp) (body D (blk X scope (nB N os fi) s H fp).env) (tb D))
  (hs:∀x,foldedSetIterable iter X.env x=pure x:=by intro _; rfl):PE X e (tCG o0 os fi wi g tt tb):=by
 intro pins s σ H Q I h
 have cells:=blk_cells (by rw [hN]; exact B) he I
 rw [hev]
 refine wpAny_comprehension_free (use:=none) hcl hs (closure_eq cells) B.kind B.loc (thn (hi pins s σ H _ I h) fun v s1 h1=>thn h1 fun itv s2 h2=>?_)
 obtain ⟨it,fp,tn,J,H2,rfl,I2,T,st2,f2,q2⟩:=h2
 refine comp_coreG (RR:=fun acc C=>compPost (model X.prog X.w) X.A X.xe none (EP X pins σ Q) acc C) hc hN he B hL hS hT hmk hg ht hb I2 T st2 f2 q2 ?_
 intro D s3 H3 s' σ' H' I3 f3 I' q
 obtain ⟨m,hn,_⟩:=I'.loc
 exact ⟨m,hn,fun h' sb=>⟨.ref D,H',blk_out I3 f3 I' sb,rfl,q⟩⟩
end
section
variable {X:Cx} {elt tg iter tg2 iter2:Expr} {ifs ifs2:List Expr} {scope esc:Scope} {pos:Pos} {N os:List Str} {fi:List Nat} {wi wi2:TI} {g g2:TG} {tt tt2:TT} {te:TE}
theorem pe_comp2 (hc:X.calm=true) (hN:X.N=N) (he:X.env.scope=esc) (B:BlkOk esc scope N fi) (hi:PI X tg iter wi)
  (hg:∀s H fp,PG (blk X scope (nB N os fi) s H fp) tg g) (ht:∀s H fp,PTs (blk X scope (nB N os fi) s H fp) ifs tt)
  (hi2:∀s H fp,PI (blk X scope (nB N os fi) s H fp) tg2 iter2 wi2) (hg2:∀s H fp,PG (blk X scope (nB N os fi) s H fp) tg2 g2) (ht2:∀s H fp,PTs (blk X scope (nB N os fi) s H fp) ifs2 tt2)
  (hel:∀s H fp,PE (blk X scope (nB N os fi) s H fp) elt te)
  (hs:∀x,foldedSetIterable iter X.env x=pure x:=by intro _; rfl) (hs2:∀env x,foldedSetIterable iter2 env x=pure x:=by intro _ _; rfl) :
  PE X (.ListComp elt [⟨tg,iter,ifs,0⟩,⟨tg2,iter2,ifs2,0⟩] scope pos) (tCG (fun _=>.lst []) os fi wi g tt fun D=>tIn wi2 g2 tt2 (tEmL D te)):=by
 refine pe_compG (gs:=[⟨tg2,iter2,ifs2,0⟩]) (body:=fun D env=>inBody (.ListComp elt [⟨tg,iter,ifs,0⟩,⟨tg2,iter2,ifs2,0⟩] scope pos) 1 iter2 (.ref D) env) rfl rfl hc hN he B loop_list (start_list rfl rfl) (fun _ _ _=>rfl) new_list hi hg ht (fun D s H fp=>?_) hs
 exact pb_in (body:=listBody elt (.ref D) (blk X scope (nB N os fi) s H fp).env) loop_list (start_list rfl rfl) hc rfl (fun _=>rfl) (hi2 s H fp) (hg2 s H fp) (ht2 s H fp) (pb_list rfl (hel s H fp)) (hs2 _)
end
def ssOf (ks:List Str):Key→Bool
 | .inr x=>decide (x∈ks)
 | _=>false
def SetT (P:Program) (w:World) (a:Addr) (ks:List Str):HO:=.ext fun h=>h.SetOf (mixKind P w) a (ssOf ks) ks.length
def insT (x:Str) (ks:List Str):List Str:=if x∈ks then ks else ks ++ [x]
theorem setT_ok {P:Program} {w:World} {H:Hp} {h:Heap} {a:Addr} {ks:List Str} (x:h.SetOf (mixKind P w) a (ssOf ks) ks.length):ObjOk P w H h a (SetT P w a ks):=
 ⟨x,let ⟨o,_,_,_,e,_⟩:=x; ⟨o,e⟩,fun h1 h2 ⟨o,es,ep,t,e,r⟩ k=>⟨o,es,ep,t,k o e,r⟩⟩
theorem ins_eq (x:Str) (ks:List Str):(fun k'=>ssOf ks k' || decide (k'=(.inr x:Key)))=ssOf (insT x ks):=by
 funext k
 cases k with
 | inl i=>simp [ssOf]
 | inr y=>
  unfold insT
  by_cases h:x∈ks
  ·rw [if_pos h]
   simp only [ssOf]
   by_cases e:y=x
   ·subst e; simp [h]
   ·simp [e]
  ·rw [if_neg h]
   simp [ssOf,List.mem_append,Bool.decide_or]
theorem ins_len (x:Str) (ks:List Str):(if ssOf ks (.inr x)=true then ks.length else ks.length + 1)=(insT x ks).length:=by
 unfold insT
 by_cases h:x∈ks
 ·rw [if_pos h,if_pos (show ssOf ks (.inr x)=true by simp [ssOf,h])]
 ·rw [if_neg h,if_neg (by simp [ssOf,h]),List.length_append]; rfl
section
variable {X:Cx} {pins:List (Addr × Obj)} {σ:St} {H:Hp} {s:Shared} {a:Addr} {ks:List Str}
theorem Inv.setOf (I:Inv X pins σ H s) (h:H a=some (SetT X.prog X.w a ks)):s.heap.SetOf (mixKind X.prog X.w) a (ssOf ks) ks.length:=(I.hok a _ h).1
theorem Inv.setPut {h':Heap} {ks':List Str} {t':Nat} (I:Inv X pins σ H s) (h:H a=some (SetT X.prog X.w a ks)) (sb:Heap.SameBut a s.heap h') (n:h'.SetOf (mixKind X.prog X.w) a (ssOf ks') ks'.length):Inv X pins σ (upd H a (SetT X.prog X.w a ks')) {s with heap:=h',toks:=t'}:=
 I.write (x:=a) (e:=a) (by rw [h]; exact trivial) (.inl rfl) (fun b u hb e=>(sb.2 b hb).trans e) (let ⟨o,_,_,_,e,_⟩:=n; ⟨o,e⟩) (setT_ok n)
theorem call_set0:CallR X (.type "set") (fun xs H Q=>xs=[]∧∀p,H p=none→Q (.ref p) (upd H p (SetT X.prog X.w p []))):=by
 intro pins s σ H xs us Q I r h
 obtain ⟨rfl,q⟩:=h
 cases r
 refine call_set_0 fun led=>?_
 have n:(s.heap.push {cls:=.type "set",dict:=none,data:=.set #[] 0 (.fresh 0 0 led)}).SetOf (mixKind X.prog X.w) s.heap.objs.size (ssOf []) ([]:List Str).length:=
  ⟨_,#[],0,_,Heap.get?_push_size _ rfl,⟨rfl,rfl,rfl⟩,rfl,fun e he=>by simp at he,fun k=>by cases k <;> simp [ssOf],by decide,by rfl,rfl⟩
 exact ⟨.ref s.heap.objs.size,_,I.laid (t':=s.toks) (fun b u e=>Heap.get?_push_of_some _ e) (Nat.le_refl _) (setT_ok n),rfl,q _ I.fresh⟩
theorem boot_set:bootBuiltins "set" = some (.type "set"):=by decide +kernel
def rInS (P:Program) (w:World) (neg:Bool):R2:=fun x y H Q=>∃z a ks,x = .str z∧y = .ref a∧H a=some (SetT P w a ks)∧Q (.bl (if neg then !decide (z∈ks) else decide (z∈ks))) H
theorem op_in_set:OpR X (compareOp .In) (rInS X.prog X.w false):=by
 intro pins s σ H x y v u Q I rx ry h
 obtain ⟨z,a,ks,rfl,rfl,ha,q⟩:=h
 obtain ⟨t,rfl⟩:=rx
 cases ry
 exact wpAny_inSet_of (mixKind_str _ _ z t) rfl (I.setOf ha) ⟨.bl _,H,I.tok _,rfl,q⟩
def rAddS (P:Program) (w:World):V→List V→Hp→VK→Prop:=fun x xs H Q=>∃a z ks,x = .ref a∧xs=[.str z]∧H a=some (SetT P w a ks)∧ks.length + 1 < 4096∧Q .non (upd H a (SetT P w a (insT z ks)))
theorem mt_setadd:MtR X "set.add" (rAddS X.prog X.w):=by
 intro pins s σ H x xs v us Q I rx rv h
 obtain ⟨a,z,ks,rfl,rfl,ha,hz,q⟩:=h
 cases rx
 obtain ⟨u,rfl,t,rfl⟩:=vals1 rv
 refine call_set_add (mixKind_str _ _ z t) rfl (I.setOf ha) hz fun h' sb n=>?_
 rw [ins_eq,ins_len] at n
 exact ⟨.non,_,I.setPut ha sb n,rfl,q⟩
theorem call_len_setT:CallR X (.builtin "len") (fun xs H Q=>∃a ks,xs=[.ref a]∧H a=some (SetT X.prog X.w a ks)∧Q (.int ks.length) H):=by
 intro pins s σ H xs us Q I r h
 obtain ⟨a,ks,rfl,ha,q⟩:=h
 obtain ⟨u,rfl,rx⟩:=vals1 r
 cases rx
 obtain ⟨o,es,ep,t,e,ex,d,_,_,b,f,n⟩:=I.setOf ha
 refine call_len_set e ex d f ?_ ⟨.int ks.length,H,I.tok _,⟨_,by rw [n]⟩,q⟩
 have:es.size < 4096:=b
 omega
end
def tAddS (P:Program) (w:World) (to:TE) (t:TA):TE:=fun σ H Q=>to σ H fun x H1=>(∃a ks,x = .ref a∧H1 a=some (SetT P w a ks))∧t σ H1 fun xs H2=>rAddS P w x xs H2 Q
theorem pe_setadd {X:Cx} {o e:Expr} {to:TE} {t:TA} {apos cpos:Pos} (ho:PE X o to) (ha:PA X [e] t)
  (hbase:attributeBase o "add" X.env (eval o X.env)=eval o X.env:=by rfl)
  (hfew:((backTo cpos (starEach [e] X.env)).all (fun x=>!x.1) && (backToKw cpos (keywordEach [] X.env)).all (fun x=>x.1.isSome)
   && decide ([e].length + ([]:List Keyword).length + (if ([]:List Keyword).isEmpty then 0 else 1) < 30))=true:=by rfl)
  (hline:(apos.endLine == cpos.line)=true:=by rfl) (hs:starEach [e] X.env=(false,eval e X.env) :: starEach [] X.env:=by rfl) (hplain:(backTo cpos (starEach [] X.env)).any (·.1)=false:=by rfl) :
  PE X (.Call (.Attribute o "add" apos) [e] [] cpos) (tAddS X.prog X.w to t):=by
 intro pins s σ H Q I h
 refine wpAny_Call_method_late hbase hfew hline rfl (thn (ho pins s σ H _ I h) fun v s1 ⟨x,H1,I1,r1,⟨a,ks,ea,hA⟩,q1⟩=>?_)
 subst ea
 cases r1
 have S:=I1.setOf hA
 refine ⟨"set","set.add",F.plainAttrs_set,F.slot_set_add,F.type_set_add,S.typeIs,S.noDict,?_⟩
 have hA:=ha cpos pins s1 σ H1 _ I1 q1
 rw [hs] at hA ⊢
 refine Calls.callWith_builtin (by show (false || (backTo cpos (starEach [] X.env)).any (·.1))=false; rw [hplain] <;> rfl) (Calls.evalArgs_plain ?_)
 exact thn hA fun us s2 ⟨vs,H2,I2,r2,q2⟩=>mt_setadd pins s2 σ H2 (.ref a) vs _ us Q I2 rfl r2 q2
theorem new_set {X:Cx}:NewRule X (newSet (.type "set")) (fun a=>SetT X.prog X.w a []):=by
 intro pins s σ H E Q I h
 refine wpAny_newSet_of (knd:=mixKind X.prog X.w) fun led n=>?_
 have n':(s.heap.push {cls:=.type "set",dict:=none,data:=.set #[] 0 (.fresh 0 0 led)}).SetOf (mixKind X.prog X.w) s.heap.objs.size (ssOf []) ([]:List Str).length:=by
  have e:(fun _:Key=>false)=ssOf []:=by
   funext k; cases k <;> simp [ssOf]
  rw [← e]; exact n
 exact h _ (fun b o e=>Heap.get?_push_of_some _ e) (I.laid (t':=s.toks) (fun b u e=>Heap.get?_push_of_some _ e) (Nat.le_refl _) (setT_ok n'))
def setBody (elt:Expr) (acc:Value) (env:Env) (k:Sem Fi):Sem Fi:=(do let v ← eval elt env; standAt elt.pos; let _ ← call (.builtin "set.add") [acc,v]) >>= fun _=>k
def tEmS (P:Program) (w:World) (D:Addr) (te:TE):TB:=fun σ H N=>te σ H fun v H6=>∃z ks,v = .str z∧H6 D=some (SetT P w D ks)∧ks.length + 1 < 4096∧N σ (upd H6 D (SetT P w D (insT z ks)))
theorem pb_set {Y:Cx} {elt:Expr} {te:TE} {D:Addr} (hx:Y.xe=F0) (hel:PE Y elt te):PB Y (setBody elt (.ref D) Y.env) (tEmS Y.prog Y.w D te):=by
 intro pins s σ H N k R I h hk
 have a1:=hel pins s σ H _ I h
 rw [hx] at a1
 refine wpAny_bind (wpAny_bind (of_F0 a1 fun y sA ⟨v,HA,IA,rA,z,ks,ev,hD,hz,wA⟩=>wpAny_bind (wpAny_standAt (wpAny_bind ?_))))
 have a2:=mt_setadd pins sA σ HA (.ref D) [v] (.ref D) [y] (fun _ H'=>N σ H') IA rfl (.cons rA .nil) ⟨D,z,ks,rfl,by rw [ev],hD,hz,wA⟩
 rw [hx] at a2
 exact of_F0 a2 fun _ sB' ⟨_,HB,IB,_,wB⟩=>wpAny_pure (hk σ HB sB' IB wB)
section
variable {X:Cx} {elt tg iter:Expr} {ifs:List Expr} {scope esc:Scope} {pos:Pos} {N os:List Str} {fi:List Nat} {wi:TI} {g:TG} {tt:TT} {te:TE}
theorem pe_setcomp (hc:X.calm=true) (hN:X.N=N) (he:X.env.scope=esc) (B:BlkOk esc scope N fi) (hi:PI X tg iter wi)
  (hg:∀s H fp,PG (blk X scope (nB N os fi) s H fp) tg g) (ht:∀s H fp,PTs (blk X scope (nB N os fi) s H fp) ifs tt)
  (hel:∀s H fp,PE (blk X scope (nB N os fi) s H fp) elt te)
  (hs:∀x,foldedSetIterable iter X.env x=pure x:=by intro _; rfl) :
  PE X (.SetComp elt [⟨tg,iter,ifs,0⟩] scope pos) (tCG (fun a=>SetT X.prog X.w a []) os fi wi g tt fun D=>tEmS X.prog X.w D te):=
 pe_compG (gs:=[]) (body:=fun D env=>setBody elt (.ref D) env) rfl rfl hc hN he B loop_set (start_set rfl rfl) (fun _ _ _=>rfl) new_set hi hg ht (fun D s H fp=>pb_set rfl (hel s H fp)) hs
end
section
variable {X:Cx} {tg:Expr}
end
def tRev (K:PySem.W.Frag) (te:TE):TE:=fun σ H Q=>te σ H fun x H1=>∃a xs,x = .ref a∧SqL K H1 a xs∧∀p,H1 p=none→Q (.ref p) (upd H1 p (.lst xs.reverse))
theorem pe_rev {X:Cx} {e:Expr} {te:TE} {k:Nat} {p1 p2 p3 pos:Pos} (he:PE X e te):PE X (.Subscript e (.Slice none none (some (.UnaryOp .USub (.Constant (.int 1) k p1) p3)) p2) pos) (tRev X.K te):=by
 intro pins s σ H Q I h
 refine Subscript_ (thn (he pins s σ H _ I h) fun v s1 ⟨x,H1,I1,r1,q1⟩=>?_)
 obtain ⟨a,xs,rfl,hx,q⟩:=q1
 cases r1
 have st:=po_some (pe_un un_neg (pe_int (X:=X) (i:=1) (j:=k) (pos:=p1)) (pos:=p3))
 refine wpAny_Slice ?_
 rw [evalPart_none]
 refine wpAny_pure (wpAny_pure ?_)
 refine thn (st pins s1 σ H1 (fun o H'=>o=some (-1)∧H'=H1) I1 ⟨_,rfl,_,rfl,rfl,rfl⟩) fun vs s3 ⟨o,H3,I3,pp,e1,e2⟩=>?_
 subst e1
 rw [e2] at I3
 clear e2
 have I4:Inv X pins σ H1 {s3 with heap:=s3.heap.push {cls:=.type "slice",data:=.fields #[.none,.none,vs]}}:=I3.kept (t':=s3.toks) fun b ob q=>Heap.get?_push_of_some _ q
 obtain ⟨its,r,ht,hz⟩:=I4.list hx
 show wpAny (model X.prog X.w) X.A (subscriptTail e (.Slice none none (some (.UnaryOp .USub (.Constant (.int 1) k p1) p3)) p2) (.ref a) (.ref s3.heap.objs.size)) (EP X pins σ Q) X.xe {s3 with heap:=s3.heap.push {cls:=.type "slice",data:=.fields #[.none,.none,vs]}}
 refine tail_any (ops:=[.ref a,.ref s3.heap.objs.size]) ht.isList.typeIs slot_list_getitem.lookup ?_ (by with_unfolding_all rfl)
 refine wpAny_getItem_list_slice ht.isList (Heap.IsSliceOf.new ..) .none .none pp (by simp) ?_ (by rw [List.size_toArray,← r.length]; omega)
 rw [PySem.W.krv_pick]
 refine ⟨.ref _,_,I4.laid (t':=s3.toks) (o:=.lst xs.reverse) (fun b ob q=>Heap.get?_push_of_some _ q) (Nat.le_refl _) ?_,rfl,q _ (I4.hok.fresh (Nat.le_refl _))⟩
 exact ⟨by rw [List.length_reverse]; exact hz,_,0,r.reverse,Heap.get?_push_size _ rfl⟩
inductive TopR (K:PySem.W.Frag) (H:Hp) (R:V→V→Bool→Prop):V→V→Bool→Prop where
 | lsts {a c:Addr} {xs ys:List V} (e:Nat→Bool) (ha:SqL K H a xs) (hc:SqL K H c ys) (hl:xs.length=ys.length) (h:∀j x y,xs[j]? = some x→ys[j]? = some y→R x y (e j)):TopR K H R (.ref a) (.ref c) ((List.range xs.length).all e)
 | lens {a c:Addr} {xs ys:List V} (ha:SqL K H a xs) (hc:SqL K H c ys) (hl:xs.length≠ys.length):TopR K H R (.ref a) (.ref c) false
 | tups {a c:Addr} {xs ys:List V} (e:Nat→Bool) (ha:SqT K H a xs) (hc:SqT K H c ys) (h:∀j x y,xs[j]? = some x→ys[j]? = some y→R x y (e j)):TopR K H R (.ref a) (.ref c) ((List.range (min xs.length ys.length)).all e && xs.length == ys.length)
def EqD (K:PySem.W.Frag) (H:Hp):Nat→V→V→Bool→Prop
 | 0,x,y,b=>(flatV x=true∧flatV y=true∧b=eqV x y)∨∃a,x = .ref a∧y = .ref a∧b=true
 | n + 1,x,y,b=>((flatV x=true∧flatV y=true∧b=eqV x y)∨∃a,x = .ref a∧y = .ref a∧b=true)∨∃a c,x = .ref a∧y = .ref c∧a≠c∧TopR K H (EqD K H n) x y b
section
variable {X:Cx} {pins:List (Addr × Obj)} {σ:St} {H:Hp} {s:Shared}
theorem items_R {R:V→V→Bool→Prop} {A:Around} {xs ys:List V} {us vs:List Value} {e:Nat→Bool} (hR:∀x y b u v,R x y b→RelV x u→RelV y v→SeqAt.EqAt A s u v b) (r1:Vals xs us) (r2:Vals ys vs) (h:∀j x y,xs[j]? = some x→ys[j]? = some y→R x y (e j)) :
  ∀j (h1:j < us.toArray.size) (h2:j < vs.toArray.size),SeqAt.EqAt A s us.toArray[j] vs.toArray[j] (e j):=fun j h1 h2=>by
 have l1:j < xs.length:=by rw [r1.length]; simpa using h1
 have l2:j < ys.length:=by rw [r2.length]; simpa using h2
 obtain ⟨u,q1,z1⟩:=r1.get (i:=j) (x:=xs[j]) (by simp [l1])
 obtain ⟨v,q2,z2⟩:=r2.get (i:=j) (x:=ys[j]) (by simp [l2])
 have e1:us.toArray[j]=u:=by
  have:us[j]? = some us.toArray[j]:=by simp
  rw [this] at q1; exact Option.some.inj q1
 have e2:vs.toArray[j]=v:=by
  have:vs[j]? = some vs.toArray[j]:=by simp
  rw [this] at q2; exact Option.some.inj q2
 rw [e1,e2]
 exact hR _ _ _ _ _ (h j _ _ (by simp [l1]) (by simp [l2])) z1 z2
theorem top_at {R:V→V→Bool→Prop} {A:Around} {x y:V} {b:Bool} {u v:Value} (I:Inv X pins σ H s) (hu:A.units < cLine) (hR:∀x y b u v,R x y b→RelV x u→RelV y v→SeqAt.EqAt A.in1 s u v b) (h:TopR X.K H R x y b) (rx:RelV x u) (ry:RelV y v):SeqAt.RcAt A s u v b:=by
 cases h with
 | lsts e ha hc hl h=>
  cases rx
  cases ry
  obtain ⟨its,r1,p1,_⟩:=I.list ha
  obtain ⟨its2,r2,p2,_⟩:=I.list hc
  have z:=SeqAt.RcAt.lists (A:=A) p1.isList p2.isList (by rw [List.size_toArray,List.size_toArray,← r1.length,← r2.length]; exact hl) hu (items_R hR r1 r2 h)
  rw [List.size_toArray,← r1.length] at z
  exact z
 | lens ha hc hl=>
  cases rx
  cases ry
  obtain ⟨its,r1,p1,_⟩:=I.list ha
  obtain ⟨its2,r2,p2,_⟩:=I.list hc
  exact SeqAt.RcAt.lists_lengths (A:=A) p1.isList p2.isList (by rw [List.size_toArray,List.size_toArray,← r1.length,← r2.length]; simpa using hl) hu
 | tups e ha hc h=>
  cases rx
  cases ry
  obtain ⟨its,r1,p1,_⟩:=I.tuple ha
  obtain ⟨its2,r2,p2,_⟩:=I.tuple hc
  have z:=SeqAt.RcAt.tuples (A:=A) (show s.heap.IsTuple _ its.toArray from p1) (show s.heap.IsTuple _ its2.toArray from p2) hu (items_R hR r1 r2 h)
  rw [List.size_toArray,List.size_toArray,← r1.length,← r2.length] at z
  exact z
theorem flat_at {A:Around} {x y:V} {b:Bool} {u v:Value} (h:(flatV x=true∧flatV y=true∧b=eqV x y)∨∃a,x = .ref a∧y = .ref a∧b=true) (rx:RelV x u) (ry:RelV y v):SeqAt.EqAt A s u v b:=by
 rcases h with ⟨f1,f2,rfl⟩ | ⟨a,rfl,rfl,rfl⟩
 ·exact eqAt_V rx ry f1 f2
 ·cases rx
  cases ry
  exact SeqAt.EqAt.same _
theorem eqd_at (I:Inv X pins σ H s):∀(n:Nat) (A:Around),A.units + n < cLine→∀(x y:V) (b:Bool) (u v:Value),EqD X.K H n x y b→RelV x u→RelV y v→SeqAt.EqAt A s u v b
 | 0,A,hu,x,y,b,u,v,h,rx,ry=>flat_at h rx ry
 | n + 1,A,hu,x,y,b,u,v,h,rx,ry=>by
  rcases h with h | ⟨a,c,rfl,rfl,ne,h⟩
  ·exact flat_at h rx ry
  ·cases rx
   cases ry
   exact SeqAt.EqAt.of_refs ne (top_at I (by omega) (eqd_at I n A.in1 (by show A.units + 1 + n < cLine; omega)) h rfl rfl)
def rEqD (K:PySem.W.Frag) (neg:Bool):R2:=fun x y H Q=>∃n b,n≤40∧TopR K H (EqD K H n) x y b∧Q (.bl (if neg then !b else b)) H
theorem op_eqD (hu:X.A.units + 60 < cLine):OpR X (compareOp .Eq) (rEqD X.K false):=by
 intro pins s σ H x y v u Q I rx ry h
 obtain ⟨n,b,hn,h,q⟩:=h
 exact top_at I (by omega) (eqd_at I n X.A.in1 (by show X.A.units + 1 + n < cLine; omega)) h rx ry _ _ _ _ ⟨.bl _,H,I,rfl,q⟩
theorem op_neD (hu:X.A.units + 60 < cLine):OpR X (compareOp .NotEq) (rEqD X.K true):=by
 intro pins s σ H x y v u Q I rx ry h
 obtain ⟨n,b,hn,h,q⟩:=h
 have hR:=eqd_at I n X.A.in1 (by show X.A.units + 1 + n < cLine; omega)
 have hu':X.A.units < cLine:=by omega
 cases h with
 | lsts e ha hc hl h=>
  cases rx
  cases ry
  obtain ⟨its,r1,p1,_⟩:=I.list ha
  obtain ⟨its2,r2,p2,_⟩:=I.list hc
  refine SeqAt.RcNeAt.lists (A:=X.A) p1.isList p2.isList (by rw [List.size_toArray,List.size_toArray,← r1.length,← r2.length]; exact hl) hu' (items_R hR r1 r2 h) _ _ _ _ ?_
  rw [List.size_toArray,← r1.length]
  exact ⟨.bl _,H,I,rfl,q⟩
 | lens ha hc hl=>
  cases rx
  cases ry
  obtain ⟨its,r1,p1,_⟩:=I.list ha
  obtain ⟨its2,r2,p2,_⟩:=I.list hc
  exact SeqAt.RcNeAt.lists_lengths (A:=X.A) p1.isList p2.isList (by rw [List.size_toArray,List.size_toArray,← r1.length,← r2.length]; simpa using hl) hu' _ _ _ _ ⟨.bl _,H,I,rfl,q⟩
 | tups e ha hc h=>
  cases rx
  cases ry
  obtain ⟨its,r1,p1,_⟩:=I.tuple ha
  obtain ⟨its2,r2,p2,_⟩:=I.tuple hc
  refine SeqAt.RcNeAt.tuples (A:=X.A) (show s.heap.IsTuple _ its.toArray from p1) (show s.heap.IsTuple _ its2.toArray from p2) hu' (items_R hR r1 r2 h) _ _ _ _ ?_
  rw [List.size_toArray,List.size_toArray,← r1.length,← r2.length]
  exact ⟨.bl _,H,I,rfl,q⟩
end
theorem Room.units60 {k:Nat} {A:Around} (r:Room k A):A.units + 60 < cLine:=by have:=r.un; omega
def HF (q:Program):List Str→Prop
 | []=>True
 | n :: ns=>(∃d,(recsOf q).find? (fun e=>e.name == n)=some d)∧HF q ns
def HC (K:PySem.W.Frag):List Str→Prop
 | []=>True
 | n :: ns=>(∃f c T fd,CodeN K n f c T fd)∧HC K ns
def HT0 (K:PySem.W.Frag):List Str→Prop
 | []=>True
 | n :: ns=>K.lookup (tbOf K n)=none∧HT0 K ns
theorem HF.mem {q:Program}:∀{ns:List Str},HF q ns→∀n∈ns,∃d,(recsOf q).find? (fun e=>e.name == n)=some d
 | [],_,n,h=>nomatch h
 | _ :: _,h,n,hn=>by
  rcases List.mem_cons.mp hn with rfl | hn
  ·exact h.1
  ·exact HF.mem h.2 n hn
theorem HC.mem {K:PySem.W.Frag}:∀{ns:List Str},HC K ns→∀n∈ns,∃f c T fd,CodeN K n f c T fd
 | [],_,n,h=>nomatch h
 | _ :: _,h,n,hn=>by
  rcases List.mem_cons.mp hn with rfl | hn
  ·exact h.1
  ·exact HC.mem h.2 n hn
theorem HT0.mem {K:PySem.W.Frag}:∀{ns:List Str},HT0 K ns→∀n∈ns,K.lookup (tbOf K n)=none
 | [],_,n,h=>nomatch h
 | _ :: _,h,n,hn=>by
  rcases List.mem_cons.mp hn with rfl | hn
  ·exact h.1
  ·exact HT0.mem h.2 n hn
theorem walk_ofN (names:List Str) {l:PySem.W.OpenLaw} {n k:Nat} {q:Program} {loose:List Str} {XP:(Str→Option Value)→Heap→Prop} {YP:World→Heap→Prop} {d:DefRec} {K:Params→PySem.W.Frag} {CX:World→CXT} {sp:World→Sp} {x:Str}
  (hn:l.most=some n) (hn2:n≤sizeLine) (hdf:d.params.defaults=[]) (hr:Room k callerA)
  (hY:∀(w:World) (h:Heap),YP w h→(K w.params).In h) (hf:HF q names) (hC:∀w:World,HC (K w.params) names) (hKT:∀w:World,HT0 (K w.params) names)
  (F:∀(w:World) (mg:Str→Option Value) (fa:Addr) (h:Heap),(K w.params).In h→h.Ns mainGlobals mg→mg d.name=some (.ref fa)→
   ∃fd:FuncData,(∀(s:Shared) (u:Value),BindsTo s fd ⟨[u],[]⟩ [(x,u)])∧
    ∀base:Heap,(K w.params).In base→base.Ns mainGlobals mg→BmOf mg base→FnOk l.prog w (K w.params) mg base (CX w) k fa fd [x] (sp w))
  (hsp:∀(w:World) (H:Hp) (a:Addr) (ns:List Int),ns.length≤n→(∀m∈names,H (tbOf (K w.params) m)=some (.tbl #[]))→SqL (K w.params) H a (ns.map V.int)→sp w [.ref a] H (fun v _=>v = .bl true) fun _ _ _=>False)
  (hCX:∀(w:World) (H:Hp) (s:Shared) (e:Value) (s':Shared),CX w [] H s (fun _ _ _=>False) e s'→False) :
  PySem.W.WalkO q loose XP YP l.row.toRowW d [] (fun f vs=>PySem.call f vs):=by
 refine walk_ofT (Ts:=fun w=>names.map fun m=>(cdOf (K w.params) m,tbOf (K w.params) m)) hn hn2 hdf hr hY ?_ ?_ F ?_ hCX
 ·intro w h lo mean mg mb KX Tp t ht
  obtain ⟨m,hm,rfl⟩:=List.mem_map.mp ht
  obtain ⟨f,c,T,fd,C⟩:=(hC w).mem m hm
  obtain ⟨d,hd⟩:=hf.mem m hm
  exact C.tab KX Tp hd
 ·intro w t ht
  obtain ⟨m,hm,rfl⟩:=List.mem_map.mp ht
  exact (hKT w).mem m hm
 ·intro w H a ns hl hO hS
  exact hsp w H a ns hl (fun m hm=>hO.tab _ (List.mem_map.mpr ⟨m,hm,rfl⟩)) hS
section
variable {κ:Type} [DecidableEq κ]
end
section
variable {P:Program} {w:World} {H:Hp} {h:Heap} {a:Addr}
end
section
variable {X:Cx} {pins:List (Addr × Obj)} {σ:St} {H:Hp} {s:Shared} {a:Addr} {y v:V} {u r:Value} {o:Option V} {A:Around} {E:Value→Shared→Prop}
end
section
variable {X:Cx} {pins:List (Addr × Obj)} {σ:St} {H:Hp} {s:Shared} {a:Addr} {kvs:List (Key × V)} {k:Key} {u:Value} {A:Around} {E:Value→Shared→Prop}
end
section
variable {X:Cx} {o i e value:Expr} {pos pos' tpos:Pos} {td ty tv:TE}
end
section
variable {X:Cx} {pos:Pos}
end
section
variable {X:Cx} {pins:List (Addr × Obj)} {σ:St} {H:Hp} {s:Shared} {a:Addr} {y d:V} {u r:Value} {o:Option V} {A:Around} {E:Value→Shared→Prop}
end
section
variable {X:Cx} {o e f:Expr} {apos cpos:Pos} {td ty tx:TE}
end
section
variable {X:Cx} {pins:List (Addr × Obj)} {σ:St} {H:Hp} {s:Shared} {a:Addr} {kvs:List (Key × V)} {A:Around} {E:Value→Shared→Prop}
end
section
variable {X:Cx} {pins:List (Addr × Obj)} {σ:St} {H:Hp} {s:Shared} {a:Addr} {y:V} {u:Value} {A:Around} {E:Value→Shared→Prop}
end
section
variable {κ:Type} [DecidableEq κ]
end
section
variable {X:Cx}
theorem mt_upper:MtR X "str.upper" (fun x xs H Q=>∃z,x = .str z∧xs=[]∧(Txt.upper z).length≤sizeLine∧Q (.str (Txt.upper z)) H):=by
 intro pins s σ H x xs v us Q I rx rv h
 obtain ⟨z,rfl,rfl,hz,q⟩:=h
 obtain ⟨t,rfl⟩:=rx
 cases rv
 exact SC.upper (by unfold Builtin.Str.tooLong; simpa using hz) ⟨.str _,H,I.tok _,⟨_,rfl⟩,q⟩
end
section
variable {X:Cx} {kx vx tg iter:Expr} {ifs:List Expr} {scope esc:Scope} {pos:Pos} {N os:List Str} {fi:List Nat} {wi:TI} {g:TG} {tt:TT} {tk tv:TE}
end
end L2
namespace PySem
namespace F
end F
section
variable {prog:Program} {w:World} {K:Type} [DecidableEq K] {knd:KeyKind prog w K} {A:Around} {R:Result→Shared→Prop}
end
section
variable {prog:Program} {w:World} {K:Type} [DecidableEq K] {knd:KeyKind prog w K} {A:Around} {E:Value→Shared→Prop} {s:Shared}
end
end PySem
namespace L2
open PySem
section
variable {X:Cx}
end
end L2
namespace L2
open PySem PySem.Spec PyProof.Rows
section
variable {X:Cx}
inductive Shown:V→Str→Prop where
 | int {i:Int} (h:i.natAbs.log2 < 1920):Shown (.int i) (toString i)
 | str {z:Str} (h:z.length≤sizeLine):Shown (.str z) z
 | non:Shown .non "None"
end
section
variable {X:Cx} {pins:List (Addr × Obj)} {σ:St} {H:Hp} {s:Shared} {scope esc:Scope} {os:List Str} {fi:List Nat} {fp:List Addr}
end
section
variable {X:Cx} {e tg iter:Expr} {ifs:List Expr} {scope esc:Scope} {pos:Pos} {N os:List Str} {fi:List Nat} {wi:TI} {g:TG} {tt:TT} {tb:Addr→TB} {body:Addr→Env→Sem Fi→Sem Fi} {o0:Addr→HO} {mk:Sem Value} {p:Pos}
end
section
variable {X:Cx} {elt kx vx tg iter tg2 iter2:Expr} {ifs ifs2:List Expr} {scope esc:Scope} {pos:Pos} {N os:List Str} {fi:List Nat} {wi wi2:TI} {g g2:TG} {tt tt2:TT} {te tk tv:TE}
end
section
variable {X:Cx}
end
section
variable {prog:Program} {w:World} {A:Around} {E:Value→Shared→Prop} {s:Shared}
end
section
variable {X:Cx} {tg:Expr}
end
section
variable {X:Cx} {e tg iter:Expr} {ifs:List Expr} {scope esc:Scope} {pos:Pos} {N os:List Str} {fi:List Nat} {wi:TI} {g:TG} {tt:TT} {tb:Addr→TB} {body:Addr→Env→Sem Fi→Sem Fi} {o0:Addr→HO} {mk:Sem Value} {p:Pos}
theorem ps_compG {gs:List Comprehension} {i:Nat} {y:Str} {py spos p':Pos} (hev:∀use:Option (Value→Sem Unit),True) (hex:exec (.Assign [.Name y py] e spos) X.env=(do standAt spos; let _ ← (do let _ ← comprehension e scope X.env p' mk false (eval iter X.env) (some (assign (.Name y py) X.env))); pure .next)) (hcl:clausesOf e=⟨tg,iter,ifs,0⟩ :: gs) (hc:X.calm=true) (hN:X.N=N) (he:X.env.scope=esc) (B:BlkOk esc scope N fi)
  (hL:LoopRule X.prog X.w X.A e 0) (hS:StartRule X.prog X.w X.A e 0) (hT:∀(it D:Addr) (env:Env),compTurn e 0 (.ref it) (.ref D) env=turnOf tg p ifs (.ref it) env (body D env) (again (.compLoop e 0 (.ref it) (.ref D) env)))
  (hmk:NewRule X mk o0) (hnd:X.N.Nodup) (hy:X.N[i]? = some y) (hl:Loc X.env.scope y) (hi:PI X tg iter wi)
  (hg:∀s H fp,PG (blk X scope (nB N os fi) s H fp) tg g) (ht:∀s H fp,PTs (blk X scope (nB N os fi) s H fp) ifs tt) (hb:∀D s H fp,PB (blk X scope (nB N os fi) s H fp) (body D (blk X scope (nB N os fi) s H fp).env) (tb D))
  (hfn:X.fn y=true∨X.env.scope.names.lookup y=some .local:=by first | exact .inl rfl | exact .inr rfl | assumption)
  (hs:∀x,foldedSetIterable iter X.env x=pure x:=by intro _; rfl):PS X (.Assign [.Name y py] e spos) (fun D σ H=>tCG o0 os fi wi g tt tb σ H fun v H'=>D.nx (σ.set i (some v)) H'):=by
 intro pins s σ H D I h
 have cells:=blk_cells (by rw [hN]; exact B) he I
 rw [hex]
 refine wpAny_bind (wpAny_standAt (wpAny_bind ?_))
 refine wpAny_bind (thn (wpAny_comprehension_free (use:=some (assign (.Name y py) X.env)) (Q:=fun _ s'=>SP X pins D .next s') hcl hs (closure_eq cells) B.kind B.loc (thn (hi pins s σ H _ I h) fun v s1 h1=>thn h1 fun itv s2 h2=>?_)) fun _ _ z=>wpAny_pure (wpAny_pure z))
 obtain ⟨it,fp,tn,J,H2,rfl,I2,T,st2,f2,q2⟩:=h2
 refine comp_coreG (Q:=fun v H'=>D.nx (σ.set i (some v)) H') (RR:=fun acc C=>compPost (model X.prog X.w) X.A X.xe (some (assign (.Name y py) X.env)) (fun _ s'=>SP X pins D .next s') acc C) hc hN he B hL hS hT hmk hg ht hb I2 T st2 f2 q2 ?_
 intro Dl s3 H3 s' σ' H' I3 f3 I' q
 have J':Inv X pins σ H' s':=blk_out I3 f3 I' (Heap.SameBut.refl ..)
 show wpAny _ _ (assign (.Name y py) X.env (.ref Dl)) _ _ s'
 refine wpAny_assign_Name (store_ok2 (v:=.ref Dl) J' hnd hy hl rfl (fun s'' J'' sb=>?_) hfn)
 obtain ⟨a,sb,ha⟩:=sb
 have cL:s3.heap.objs.size≠X.env.locals:=Nat.ne_of_gt I3.lt
 have cC:∀x c,X.env.cells.lookup x=some c→c≠s3.heap.objs.size:=fun x c e=>by
  obtain ⟨v,ic⟩:=I3.cell x c e
  exact Nat.ne_of_lt ic.lt
 have ca:s3.heap.objs.size≠a:=by
  rcases ha with z | z
  ·rw [z]; exact cL
  ·exact (cC _ _ z).symm
 obtain ⟨m,hn,_⟩:=I'.loc
 have hn'':s''.heap.Ns s3.heap.objs.size m:=by
  obtain ⟨o,es,ep,ho,r⟩:=hn
  exact ⟨o,es,ep,(sb.2 _ ca).trans ho,r⟩
 refine ⟨m,hn'',fun h' sb'=>⟨σ.set i (some (.ref Dl)),H',?_,q⟩⟩
 exact J''.turned (t':=s''.toks) (it:=s3.heap.objs.size) (fun b o hb e=>(sb'.2 b hb).trans e) I'.free cL (.inr I3.sz) cC fun p hp=>Nat.ne_of_lt (Heap.lt_size (I3.pin p hp).1)
end
section
variable {X:Cx} {elt kx vx tg iter tg2 iter2:Expr} {ifs ifs2:List Expr} {scope esc:Scope} {pos:Pos} {N os:List Str} {fi:List Nat} {wi wi2:TI} {g g2:TG} {tt tt2:TT} {te tk tv:TE}
theorem pe_compL (hc:X.calm=true) (hN:X.N=N) (he:X.env.scope=esc) (B:BlkOk esc scope N fi) (hi:PI X tg iter wi)
  (hg:∀s H fp,PG (blk X scope (nB N os fi) s H fp) tg g) (ht:∀s H fp,PTs (blk X scope (nB N os fi) s H fp) ifs tt)
  (hel:∀s H fp,PE (blk X scope (nB N os fi) s H fp) elt te)
  (hs:∀x,foldedSetIterable iter X.env x=pure x:=by intro _; rfl) :
  PE X (.ListComp elt [⟨tg,iter,ifs,0⟩] scope pos) (tCG (fun _=>.lst []) os fi wi g tt fun D=>tEmL D te):=
 pe_compG (gs:=[]) (body:=fun D env=>listBody elt (.ref D) env) rfl rfl hc hN he B loop_list (start_list rfl rfl) (fun _ _ _=>rfl) new_list hi hg ht (fun D s H fp=>pb_list rfl (hel s H fp)) hs
theorem ps_compL {i:Nat} {y:Str} {py spos:Pos} (hc:X.calm=true) (hN:X.N=N) (he:X.env.scope=esc) (B:BlkOk esc scope N fi) (hnd:X.N.Nodup) (hy:X.N[i]? = some y) (hl:Loc X.env.scope y) (hi:PI X tg iter wi)
  (hg:∀s H fp,PG (blk X scope (nB N os fi) s H fp) tg g) (ht:∀s H fp,PTs (blk X scope (nB N os fi) s H fp) ifs tt) (hel:∀s H fp,PE (blk X scope (nB N os fi) s H fp) elt te)
  (hsw:swapsWith (.ListComp elt [⟨tg,iter,ifs,0⟩] scope pos) (some (.Name y py)) spos.line X.env=pure true:=by rfl)
  (hfn:X.fn y=true∨X.env.scope.names.lookup y=some .local:=by first | exact .inl rfl | exact .inr rfl | assumption)
  (hs:∀x,foldedSetIterable iter X.env x=pure x:=by intro _; rfl):PS X (.Assign [.Name y py] (.ListComp elt [⟨tg,iter,ifs,0⟩] scope pos) spos) (fun D σ H=>tCG (fun _=>.lst []) os fi wi g tt (fun D=>tEmL D te) σ H fun v H'=>D.nx (σ.set i (some v)) H'):=
 ps_compG (gs:=[]) (body:=fun D env=>listBody elt (.ref D) env) (fun _=>trivial) (exec_Assign_Name_used _ _ _ _ hsw) rfl hc hN he B loop_list (start_list rfl rfl) (fun _ _ _=>rfl) new_list hnd hy hl hi hg ht (fun D s H fp=>pb_list rfl (hel s H fp)) hfn hs
end
theorem lr_list {K:PySem.W.Frag} {S:Addr} {xs:List V} {g:TG} {tt:TT} {tb:TB} {σ:St} {H:Hp} {N:St→Hp→Prop} (Pv:Nat→St→Hp→Prop) (h0:Pv 0 σ H) (hS:∀i σ H,Pv i σ H→SqL K H S xs)
  (step:∀(i:Nat) (x:V) (σ:St) (H:Hp) (C:St→Hp→Prop),xs[i]? = some x→Pv i σ H→(∀σ' H',Pv (i + 1) σ' H'→C σ' H')→g x σ H fun σ4 H4=>tt σ4 H4 fun ok H5=>if ok=true then tb σ4 H5 C else C σ4 H5)
  (fin:∀σ H,Pv xs.length σ H→N σ H):LR (Itl K S) g tt tb σ H N:=by
 refine ⟨fun i m σ H=>m=xs.length - i∧i≤xs.length∧Pv i σ H,⟨_,rfl,Nat.zero_le _,h0⟩,?_⟩
 rintro i m σ2 H2 ⟨rfl,hi,p⟩
 have sq:=hS i σ2 H2 p
 by_cases hlt:i < xs.length
 ·refine .inr ⟨⟨xs,_,sq,List.getElem?_eq_getElem hlt⟩,?_⟩
  rintro x H3 ⟨rfl,hx⟩
  exact step i x σ2 H3 _ (hx _ sq) p fun σ' H' p'=>⟨xs.length - (i + 1),by omega,rfl,hlt,p'⟩
 ·have e:i=xs.length:=by omega
  subst e
  exact .inl ⟨⟨xs,sq,Nat.le_refl _⟩,fin σ2 H2 p⟩
end L2
namespace L2
open PySem PySem.Spec PyProof.Rows PyProof
end L2
namespace L2
open PySem PySem.Spec PyProof.Rows
section
variable {prog:Program} {w:World} {A:Around} {E:Value→Shared→Prop} {s:Shared} {z TI TO i1 i2:Addr} {n1 n2 k:Nat} {P1 P2:Nat→Value→Prop} {St1 St2:Nat→Heap→Prop} {fp1 fp2:List Addr} {a b:Value}
end
section
variable {prog:Program} {w:World} {A:Around} {E:Value→Shared→Prop} {s:Shared}
end
section
variable {X:Cx} {es:List Expr} {tk:Nat} {tpos:Pos}
end
section
variable {X:Cx} {tg:Expr}
end
section
variable {X:Cx}
end
theorem newH {H:Hp} {a:Addr} {o:HO} {H':Hp} (h:upd H a o=H') (n:H a=none):Same H H'∧H' a=some o∧∀b,b≠a→H' b=H b:=by
 subst h
 exact ⟨fun b u e=>by rw [upd_ne (ne_of_none e n)]; exact e,upd_same,fun b hb=>upd_ne hb⟩
theorem newC {H:Hp} {a:Addr} {o:HO} {H':Hp} {C:Prop} (h:upd H a o=H') (n:H a=none) (k:Same H H'→H' a=some o→(∀b,b≠a→H' b=H b)→C):C:=
 k (newH h n).1 (newH h n).2.1 (newH h n).2.2
section
variable {X:Cx} {es:List Expr} {tk:Nat} {tpos:Pos}
end
theorem lr_str {z:Str} {g:TG} {tt:TT} {tb:TB} {σ:St} {H:Hp} {N:St→Hp→Prop} (Pv:Nat→St→Hp→Prop) (h0:Pv 0 σ H)
  (step:∀(i c:Nat) (σ:St) (H:Hp) (C:St→Hp→Prop),z.cps[i]? = some c→Pv i σ H→(∀σ' H',Pv (i + 1) σ' H'→C σ' H')→g (.str ⟨#[c]⟩) σ H fun σ4 H4=>tt σ4 H4 fun ok H5=>if ok=true then tb σ4 H5 C else C σ4 H5)
  (fin:∀σ H,Pv z.cps.size σ H→N σ H):LR (Its z) g tt tb σ H N:=by
 refine ⟨fun i m σ H=>m=z.cps.size - i∧i≤z.cps.size∧Pv i σ H,⟨_,rfl,Nat.zero_le _,h0⟩,?_⟩
 rintro i m σ2 H2 ⟨rfl,hi,p⟩
 by_cases hlt:i < z.cps.size
 ·refine .inr ⟨hlt,?_⟩
  rintro x H3 ⟨rfl,c,hc,rfl⟩
  exact step i c σ2 H3 _ hc p fun σ' H' p'=>⟨z.cps.size - (i + 1),by omega,rfl,hlt,p'⟩
 ·have e:i=z.cps.size:=by omega
  subst e
  exact .inl ⟨rfl,fin _ _ p⟩
end L2
namespace L2
open PySem
end L2
namespace L2
open PySem PySem.Spec PyProof.Rows
section
variable {pr:Program} {wd:World} {Ar:Around} {Rs:Result→Shared→Prop} {J:Addr} {fo wo:List Addr} {Ge:Array GenState→Array GenState→Prop} {m:Nat} {Pv:Nat→Value→Prop} {Sa:Nat→Shared→Prop}
end
section
variable {pr:Program} {wd:World} {Ar:Around} {Ex:Value→Shared→Prop} {s:Shared}
end
section
variable {X:Cx}
end
section
variable {prog:Program} {w:World} {A:Around} {E:Value→Shared→Prop} {h:Heap} {g:Array GenState} {d:Drawn} {t:Nat} {os:OsState} {nm q:Str} {C N:Addr} {bs bm bmB:List Value} {hdct:Bool} {sn:List Str} {sub:List Value} {ab:Bool} {col:Option Bool}
 {dd:Option Addr} {k0 k1 k2 k3 k5:Option Value} {B newId initId:String}
theorem type_call_initT (F:ExcBaseFacts B newId initId bmB) (T:OwnTail h bmB bm) {mN:Str→Option Value} {rest:List Value} {fI:Addr} {oI:Obj} {Q:PySem.Fin→Shared→Prop}
  (hC:h.get? C=some (excClassObj nm q C N bs bm hdct sn sub ab col dd k0 k1 k2 k3 k5 newId)) (hn:h.Ns N mN) (hi:mN (Str.ofString "__init__")=some (.ref fI)) (hfI:h.get? fI=some oI) (hfc:oI.cls = .type "function")
  (hq:∀(h':Heap) (e:Addr),h.MadeExcOf h' e (.ref C) rest→wpAny (model prog w) A (call (.ref fI) (.ref e :: rest)) (fun r s'=>r = .none∧Q (.done (.ret (.ref e))) s') E {heap:=h',gens:=g,drawn:=d,toks:=t,os:=os})
  (hrest:rest.length≤sizeLine):wpAny (model prog w) A (Builtin.«type.__call__» {pos:=.ref C :: rest}) Q E {heap:=h,gens:=g,drawn:=d,toks:=t,os:=os}:=by
 unfold Builtin.«type.__call__»
 refine wpAny_ite_false rfl ?_
 refine wpAny_bind (id (wpAny_bind (id (wpAny_bind (wpAny_load' hC (wpAny_pure (wpAny_pure (wpAny_ite_false rfl (wpAny_bind (wpAny_madeBy_exc hC (wpAny_bind (wpAny_pure (wpAny_bind (wpAny_holding (wpAny_call ?_)))))))))))))))
 refine codeAny_call_builtin_code (Code.quiet_builtin {pos:=Value.ref C :: rest} F.quiet) (wpAny_check_new_subT F T hC (codeAny_exc_new_subT F T hC (id ?_) hrest))
 have hk:∀(b:Addr) (o:Obj),h.get? b=some o→((h.push {cls:=Value.type "tuple",data:=Data.seq rest.toArray}).push {cls:=Value.ref C,data:=Data.fields #[Value.ref h.objs.size,Value.none,Value.none,Value.none,Value.bool false,Value.none]}).get? b=some o:=fun b o e=>Heap.get?_push_of_some _ (Heap.get?_push_of_some _ e)
 have hC₁:=hk _ _ hC
 have hn₁:=hn.keeps hk
 have T₁:=T.keeps hk
 have hget:((h.push {cls:=Value.type "tuple",data:=Data.seq rest.toArray}).push {cls:=Value.ref C,data:=Data.fields #[Value.ref h.objs.size,Value.none,Value.none,Value.none,Value.bool false,Value.none]}).get? (h.objs.size + 1)=_:=Heap.get?_push_at (by rw [Heap.size_push]) rfl
 have hcC:(Value.ref C :: bm).contains (Value.ref C)=true:=by simp
 have hm:h.MadeExcOf ((h.push {cls:=Value.type "tuple",data:=Data.seq rest.toArray}).push {cls:=Value.ref C,data:=Data.fields #[Value.ref h.objs.size,Value.none,Value.none,Value.none,Value.bool false,Value.none]}) (h.objs.size + 1) (.ref C) rest:=by
  refine ⟨hk,?_,h.objs.size,hget,?_,?_⟩
  ·exact Heap.get?_none_of_le (Nat.le_succ _)
  ·exact Heap.get?_none_of_le (Nat.le_refl _)
  ·exact Heap.get?_push_of_some _ (Heap.get?_push_at rfl rfl)
 have z:=hq _ _ hm
 generalize hH:((h.push {cls:=Value.type "tuple",data:=Data.seq rest.toArray}).push {cls:=Value.ref C,data:=Data.fields #[Value.ref h.objs.size,Value.none,Value.none,Value.none,Value.bool false,Value.none]})=h2 at *
 show wpAny (model prog w) A _ Q E {heap:=h2,gens:=g,drawn:=d,toks:=t,os:=os}
 refine wpAny_bind (wpAny_bind (id (wpAny_bind (wpAny_loadPart_at hget (wpAny_pure (wpAny_isSubtype_exc hC₁ ?_))))))
 rw [hcC]
 refine wpAny_ite_false rfl (wpAny_bind (wpAny_holding (id (wpAny_bind (id (wpAny_bind (id (wpAny_bind (wpAny_loadPart_at hget (wpAny_pure (id (wpAny_typeLookup_tail hC₁ hn₁ T₁ F.mroIs F.init.lookup ?_))))))))))))
 rw [hi]
 refine wpAny_holding (wpAny_bind (id (wpAny_bind (wpAny_typeOf ⟨oI,hk _ _ hfI,hfc⟩ ?_))))
 refine wpAny_ite_true (by decide +kernel) (wpAny_pure (wpAny_bind (thn z fun r s' hz=>?_)))
 obtain ⟨rfl,zq⟩:=hz
 exact wpAny_pure (wpAny_ite_false rfl (wpAny_pure zq))
theorem call_initT (F:ExcBaseFacts B newId initId bmB) (T:OwnTail h bmB bm) {mN:Str→Option Value} {rest:List Value} {fI:Addr} {oI:Obj} {Q:Value→Shared→Prop}
  (hC:h.get? C=some (excClassObj nm q C N bs bm hdct sn sub ab col dd k0 k1 k2 k3 k5 newId)) (hn:h.Ns N mN) (hi:mN (Str.ofString "__init__")=some (.ref fI)) (hfI:h.get? fI=some oI) (hfc:oI.cls = .type "function")
  (hq:∀(h':Heap) (e:Addr),h.MadeExcOf h' e (.ref C) rest→wpAny (model prog w) (A.under (Code.builtin "type.__call__" {pos:=Value.ref C :: rest})) (call (.ref fI) (.ref e :: rest)) (fun r s'=>r = .none∧Q (.ref e) s') E {heap:=h',gens:=g,drawn:=d,toks:=t,os:=os})
  (hrest:rest.length≤sizeLine):wpAny (model prog w) A (call (.ref C) rest) Q E {heap:=h,gens:=g,drawn:=d,toks:=t,os:=os}:=by
 have f1:=tc_lookup
 have f2:=tc_bind (Value.ref C)
 have hT:({heap:=h,gens:=g,drawn:=d,toks:=t,os:=os}:Shared).TypeIs (.ref C) "type":=⟨_,hC,rfl⟩
 refine wpAny_call (codeAny_of_tree (id (id (wpAny_bind (wpAny_load' hC (id (id (wpAny_bind (wpAny_specialOf hT f1 (wpAny_bind (wpAny_of_eq f2 (wpAny_bind (id (wpAny_pure (wpAny_ite_true rfl (id (wpAny_pure ⟨rfl,?_⟩)))))))))))))))))
 exact codeAny_call_builtin_at (Code.quiet_builtin {pos:=[Value.ref C] ++ {pos:=rest:Args}.pos} (by decide +kernel)) entry_typeCall
  (wpAny_check_type_call_sub hC (type_call_initT F T hC hn hi hfI hfc (fun h' e hm=>hq h' e hm) hrest))
end
theorem own_init:builtinOwn "ValueError" "__init__" = some (.builtin "ValueError.__init__"):=by decide +kernel
theorem typ_init:typeOf (.builtin "ValueError.__init__")=pure (.type "wrapper_descriptor"):=by rfl
theorem slot_wdget:Slot "wrapper_descriptor" "__get__" "wrapper_descriptor.__get__":=
 Slot.of (owner:="wrapper_descriptor") (n:="__get__") (by rw [typeLookup_type,builtinLookup_eq_fast]; rfl) (by decide +kernel) (by decide +kernel) (by decide +kernel) (Or.inl (by decide +kernel)) (by rw [isSubtype_type]; rfl) (by decide +kernel)
theorem entry_wdget:entryFor table "wrapper_descriptor.__get__" = some Builtin.«wrapper_descriptor.__get__»:=entryFor_of_tree (by show _=_; rfl)
theorem args_wdget (a b c:Value):argsOk "wrapper_descriptor.__get__" {pos:=[a,b,c]}:=by show _=_; rfl
theorem classOwn_own {M:Model} {A:Around} {E:Value→Shared→Prop} {s:Shared} {a:Addr} {c0:Value} {dd:Option Addr} {cd:ClassData} {sl:Array (Option Value)} {mA:Str→Option Value} {name:Str} {Q:Option Value→Shared→Prop}
  (hA:s.heap.get? a=some {cls:=c0,dict:=dd,data:=.cls cd,slots:=sl}) (hN:s.heap.Ns cd.ns mA) (q:Q (mA name) s):wpAny M A (classOwn (.ref a) name) Q E s:=by
 unfold classOwn classData
 exact wpAny_bind (wpAny_bind (wpAny_load' hA (wpAny_pure (wpAny_nsGet hN q))))
section
variable {prog:Program} {w:World} {A:Around} {E:Value→Shared→Prop} {h:Heap} {g:Array GenState} {d:Drawn} {t:Nat} {os:OsState}
theorem super_ga {so D x C:Addr} {l₀ l:List Value} {tk:Tok} {Q:PySem.Fin→Shared→Prop} (hso:h.get? so=some {cls:=.type "super",data:=.fields #[.ref D,.ref x,.ref C]})
  (hno:PySem.W.Looks (model prog w) h (opaqueClassAbove (.ref C)) none) (hC:PySem.W.Looks (model prog w) h (mroOf (.ref C)) l₀) (hl:List.drop 1 (List.dropWhile (fun x=>x != Value.ref D) l₀)=l) (hxC:x≠C)
  (T:OwnTail h bmV l) {ox:Obj} (hx:h.get? x=some ox) (hxc:ox.cls = .ref C) (hsub:PySem.W.Looks (model prog w) h (isSubtype (.ref C) (.type "ValueError")) true)
  (hq:Q (.done (.ret (.ref h.objs.size))) {heap:=h.push {cls:=.type "method-wrapper",data:=.fields #[.builtin "ValueError.__init__",.ref x]},gens:=g,drawn:=d,toks:=t,os:=os}) :
  wpAny (model prog w) A (Builtin.«super.__getattribute__» {pos:=[.ref so,.str "__init__" tk]}) Q E {heap:=h,gens:=g,drawn:=d,toks:=t,os:=os}:=by
 unfold Builtin.«super.__getattribute__»
 refine wpAny_bind (id (wpAny_pure (wpAny_ite_false rfl (wpAny_bind (id (wpAny_pure ?_))))))
 refine wpAny_bind (wpAny_field (x:=Value.ref D) hso rfl rfl (wpAny_bind (wpAny_field (x:=Value.ref x) hso rfl rfl (wpAny_bind (wpAny_field (x:=Value.ref C) hso rfl rfl ?_)))))
 refine wpAny_ite_false rfl (wpAny_bind (ks_wpAny_notOpaque hno ?_))
 refine wpAny_ite_false rfl (wpAny_bind (hC.at ?_))
 dsimp only
 rw [hl]
 clear hC hl
 refine wpAny_bind ?_
 induction T with
 | own hA hN hi T ih=>
  rw [List.forIn_cons]
  refine wpAny_bind (wpAny_bind ?_)
  refine classOwn_own hA hN ?_
  rw [hi]
  exact wpAny_pure ih
 | base=>
  rw [List.forIn_cons]
  refine wpAny_bind (wpAny_bind ?_)
  refine wpAny_of_eq (show classOwn (.type "ValueError") (Str.ofString "__init__")=pure (some (.builtin "ValueError.__init__")) from congrArg pure own_init) ?_
  have hne:(Value.ref x == Value.ref C)=false:=by simp [hxC]
  rw [hne]
  refine wpAny_bind (wpAny_of_eq typ_init (wpAny_bind (wpAny_of_eq slot_wdget.lookup (wpAny_bind (wpAny_holding (wpAny_call_entry slot_wdget rfl entry_wdget ?_ (args_wdget _ _ _)))))))
  unfold Builtin.«wrapper_descriptor.__get__»
  refine wpAny_bind (wpAny_of_eq (a:=(Value.builtin "ValueError.__init__",some (Value.ref x),some (Value.ref C))) rfl ?_)
  refine wpAny_bind ?_
  refine wpAny_bind (wpAny_of_eq (a:=(Str.ofString "__init__",Value.type "ValueError")) ?_ ?_)
  ·rfl
  refine wpAny_bind ?_
  unfold isInstance
  refine wpAny_bind (wpAny_typeOf_ref hx ?_)
  rw [hxc]
  refine hsub.at ?_
  refine wpAny_ite_false rfl (wpAny_pure (wpAny_bind ?_))
  unfold newFields newObj
  exact wpAny_bind (wpAny_alloc' (wpAny_pure (wpAny_pure ⟨_,rfl,wpAny_bind (wpAny_pure (wpAny_pure (wpAny_pure (wpAny_pure hq))))⟩)))
end
section
variable {M:Model} {A:Around} {E:Value→Shared→Prop} {h:Heap} {g:Array GenState} {d:Drawn} {t:Nat} {os:OsState} {nm q:Str} {C N:Addr} {bs bm:List Value} {hdct:Bool} {sn:List Str} {sub:List Value} {ab:Bool} {col:Option Bool}
 {dd:Option Addr} {k0 k1 k2 k3 k5:Option Value} {newId:String}
theorem bound_init {x:Addr} {m:Value} {ox:Obj} {Q:Unit→Shared→Prop} (hC:h.get? C=some (excClassObj nm q C N bs bm hdct sn sub ab col dd k0 k1 k2 k3 k5 newId)) (hx:h.get? x=some ox) (hxc:ox.cls = .ref C) (hq:Q () {heap:=h,gens:=g,drawn:=d,toks:=t,os:=os}) :
  wpAny M A (checkBoundCall "ValueError.__init__" {pos:=[.ref x,m]}) Q E {heap:=h,gens:=g,drawn:=d,toks:=t,os:=os}:=by
 have e1:(Manifest.Receiver.self == Manifest.Receiver.none)=false:=by decide
 unfold checkBoundCall
 rw [F.excBase_ValueError.initRow,F.excBase_ValueError.initKind]
 dsimp only
 rw [if_pos (by decide)]
 unfold Bind.checkArgs Bind.printed Bind.receiverType typeNameWhole
 simp only [e1]
 refine wpAny_bind (wpAny_ite_false (by decide) (wpAny_bind ?_))
 refine wpAny_typeOf_ref hx ?_
 rw [hxc]
 unfold classData
 refine wpAny_bind (wpAny_bind (wpAny_bind (wpAny_load' hC (wpAny_pure (wpAny_pure (wpAny_pure ?_))))))
 refine wpAny_bind (wpAny_ite_true (by decide) (wpAny_pure ?_))
 exact wpAny_onRaise (wpAny_of_eq (a:=()) rfl hq)
end
section
variable {prog:Program} {w:World} {A:Around} {E:Value→Shared→Prop} {h:Heap} {g:Array GenState} {d:Drawn} {t:Nat} {os:OsState}
theorem super_init {so D x C:Addr} {l₀ l:List Value} {pl:Sem Bool} {Q:Value × List Value→Shared→Prop} (hso:h.get? so=some {cls:=.type "super",data:=.fields #[.ref D,.ref x,.ref C]})
  (hno:PySem.W.Looks (model prog w) h (opaqueClassAbove (.ref C)) none) (hC:PySem.W.Looks (model prog w) h (mroOf (.ref C)) l₀) (hl:List.drop 1 (List.dropWhile (fun x=>x != Value.ref D) l₀)=l) (hxC:x≠C)
  (T:OwnTail h bmV l) {ox:Obj} (hx:h.get? x=some ox) (hxc:ox.cls = .ref C) (hsub:PySem.W.Looks (model prog w) h (isSubtype (.ref C) (.type "ValueError")) true)
  (hq:Q (.ref h.objs.size,[]) {heap:=h.push {cls:=.type "method-wrapper",data:=.fields #[.builtin "ValueError.__init__",.ref x]},gens:=g,drawn:=d,toks:=t + 1,os:=os}) :
  wpAny (model prog w) A (getMethod (.ref so) "__init__" pl) Q E {heap:=h,gens:=g,drawn:=d,toks:=t,os:=os}:=by
 have hT:∀tk,({heap:=h,gens:=g,drawn:=d,toks:=tk,os:=os}:Shared).TypeIs (.ref so) "super":=fun tk=>⟨_,hso,rfl⟩
 unfold getMethod
 refine wpAny_bind (wpAny_specialOf (hT _) F.ks_slot_super_ga.lookup (wpAny_ite_true F.ks_canon_super_ga (wpAny_bind ?_)))
 unfold getAttr getAttrBy
 refine wpAny_bind (wpAny_mkText (wpAny_holding (wpAny_bind (wpAny_typeOf (hT _) (wpAny_bind (wpAny_of_eq F.ks_slot_super_ga.lookup ?_))))))
 refine wpAny_ite_false (by decide +kernel) ?_
 unfold getAttrByItsOwn hookBefore
 have f3:=F.ks_slot_super_ga.bind (.ref so)
 repeat (first | assumption | wp_step)
 refine codeAny_call_builtin F.ks_slot_super_ga.plain F.ks_entry_super_ga (F.ks_slot_super_ga.check _ _ _ _ _ _ _ _ (hT _) (F.ks_gaArgs_super _ _) (super_ga hso hno hC hl hxC T hx hxc hsub ?_))
 show wpAny (model prog w) A (handedOut (.ref h.objs.size)) _ _ _
 exact PySem.W.handed_on rfl (wpAny_pure hq)
theorem call_wrapper {nm q:Str} {C N:Addr} {bs bm:List Value} {hdct:Bool} {sn:List Str} {sub:List Value} {ab:Bool} {col:Option Bool} {dd:Option Addr} {k0 k1 k2 k3 k5:Option Value} {newId:String} {m x:Addr} {msg:Value} {ox:Obj} {vs:Array Value} {Q:Value→Shared→Prop} (hm:h.get? m=some {cls:=.type "method-wrapper",data:=.fields #[.builtin "ValueError.__init__",.ref x]})
  (hC:h.get? C=some (excClassObj nm q C N bs bm hdct sn sub ab col dd k0 k1 k2 k3 k5 newId)) (hx:h.get? x=some ox) (hxc:ox.cls = .ref C) (hxd:ox.data = .fields vs) {v0:Value} (hv0:vs[0]? = some v0)
  (hq:Q .none {heap:=(h.push {cls:=.type "tuple",data:=.seq #[msg]}).update x (Obj.mapFields fun y=>y.setIfInBounds 0 (.ref h.objs.size)),gens:=g,drawn:=d,toks:=t,os:=os}) :
  wpAny (model prog w) A (call (.ref m) [msg]) Q E {heap:=h,gens:=g,drawn:=d,toks:=t,os:=os}:=by
 have hT:({heap:=h,gens:=g,drawn:=d,toks:=t,os:=os}:Shared).TypeIs (.ref m) "method-wrapper":=⟨_,hm,rfl⟩
 refine wpAny_call (codeAny_of_tree (id (id (wpAny_bind (wpAny_load' hm (id (id (wpAny_bind (bound_init hC hx hxc ?_)))))))))
 refine wpAny_pure ⟨Code.quiet_builtin _ (by decide +kernel),codeAny_builtin F.excBase_ValueError.initEntry ?_⟩
 unfold Builtin.«BaseException.__init__»
 refine wpAny_ite_false rfl (wpAny_bind (wpAny_newTuple ?_ (by show 1≤sizeLine; decide)))
 unfold Builtin.BaseException.bexcPut
 have hx1:(h.push {cls:=.type "tuple",data:=.seq #[msg]}).get? x=some ox:=Heap.get?_push_of_some _ hx
 refine wpAny_bind (wpAny_bind (wpAny_field hx1 hxd hv0 (wpAny_bind (wpAny_setField hx1 hxd (Array.getElem?_eq_some_iff.mp hv0).1 ?_))))
 have fin:wpAny (model prog w) (A.under (Code.builtin "ValueError.__init__" {pos:=[.ref x,msg]})) (ret .none) (fun fin s'=>
     match fin with
     | Fin.done f=>match (Except.ok f:Except Value Flow) with
      | Except.ok (Flow.ret v)=>Q v s'
      | Except.ok a=>False
      | Except.error e=>E e s'
     | Fin.again c'=>c'.quiet=true∧codeAny (model prog w) A c' (fun r s'=>match r with
       | Except.ok (Flow.ret v)=>Q v s'
       | Except.ok a=>False
       | Except.error e=>E e s') s') (fun e s'=>E e s') {heap:=(h.push {cls:=.type "tuple",data:=.seq #[msg]}).update x (Obj.mapFields fun y=>y.setIfInBounds 0 (.ref h.objs.size)),gens:=g,drawn:=d,toks:=t,os:=os}:=wpAny_pure hq
 cases v0 with
 | ref a=>exact wpAny_letGo fin
 | _=>exact wpAny_pure fin
end
def ownV:Value→Bool
 | .ref _=>true
 | _=>false
def onlyV (l:List Value):Bool:=l.dropWhile ownV == bmV
def overV (K:PySem.W.Frag) (C:Addr):Bool:=(PySem.W.clsIn K C).any fun cd=>onlyV cd.mro
theorem refuse_drop (self:Value) (what:Str):∀l:List Value,refuseLoop self what l=refuseLoop self what (l.dropWhile ownV)
 | []=>rfl
 | .ref c :: r=>by rw [refuseLoop_ref,refuse_drop self what r]; rfl
 | .type _ :: _=>rfl
 | .none :: _=>rfl
 | .ellipsis :: _=>rfl
 | .notImplemented :: _=>rfl
 | .bool _ :: _=>rfl
 | .int _ _ :: _=>rfl
 | .float _ _ :: _=>rfl
 | .str _ _ :: _=>rfl
 | .bytes _ _ :: _=>rfl
 | .builtin _ :: _=>rfl
theorem refuse_onlyV (self:Value) {l:List Value} (e:onlyV l=true):refuseLoop self "__setattr__" l=pure ():=by
 rw [refuse_drop,beq_iff_eq.mp e]
 exact PySem.F.store_ValueError.passes self
theorem onlyV_has {l:List Value} (e:onlyV l=true):(.type "object")∈l:=by
 have z:(.type "object" : Value)∈l.dropWhile ownV:=by rw [beq_iff_eq.mp e]; simp
 exact List.dropWhile_subset _ z
open Builtin.ObjectAttr in
theorem osa_openV {prog:Program} {w:World} {A:Around} {R:Result→Shared→Prop} {s:Shared} {K:PySem.W.Frag} {x C:Addr} {ox:Obj} {od:Option Obj} {name:Str} {tk:Tok} {v:Value} (X:K.In s.heap) (J:PySem.W.InstAt s.heap x ox C od) (hp:overV K C=true) (ht:PySem.W.takerIn K C name=some none)
  (h:∀b,wpAny (model prog w) A.in1 (Builtin.ObjectAttr.storeInOwnDict (.ref x) (.ref C) (.str name tk) name v b)
   (fun fin s'=>match fin with | .done f=>R (.ok f) s' | .again c'=>c'.quiet=true∧codeAny (model prog w) A c' R s') (fun e s'=>R (.error e) s') s) :
  codeAny (model prog w) A (.call (.builtin "object.__setattr__") ⟨[.ref x,.str name tk,v],[]⟩) R s:=by
 obtain ⟨cd,hc,ho⟩:=PySem.W.any_some hp
 have mem:=onlyV_has ho
 have ne:cd.mro.isEmpty=false:=by
  cases q:cd.mro with
  | nil=>rw [q] at mem; cases mem
  | cons _ _=>rfl
 have mo:PySem.W.mroIn K C (.type "object")=some true:=by
  unfold PySem.W.mroIn
  rw [hc,Option.bind_some,ne,List.contains_iff_mem.mpr mem]
  rfl
 have sub:PySem.W.Looks (model prog w) s.heap (isInstance (.ref x) (.type "object")) true:=J.type.andThen (PySem.W.looks_mroIn X mo)
 obtain ⟨attr,ha,hr⟩:=Option.bind_eq_some_iff.mp ht
 have LM:PySem.W.Looks (model prog w) s.heap (mroOf (.ref C)) cd.mro:=(PySem.W.looks_clsIn X hc).andThen .now
 have LT:PySem.W.Looks (model prog w) s.heap (storeTaker? attr) none:=by
  cases attr with
  | none=>exact .now
  | some a=>
   obtain ⟨b,hb,e⟩:=Option.map_eq_some_iff.mp hr
   cases b with
   | true=>cases e
   | false=>exact (PySem.W.looks_takesIn X hb).andThen .now
 have SO:=PySem.F.store_object
 refine codeAny_call_builtin SO.slot.plain SO.entry ?ck
 have go:=@PySem.W.check_slot (model prog w) A.in1 (fun e s'=>R (.error e) s') s "object.__setattr__" "object" "__setattr__" (.ref x) [.str name tk,v] []
 refine go SO.kind SO.split sub (SO.args _ _ _) ?_
 rw [PySem.W.osa_eq,PySem.refuse_eq]
 refine wpAny_bind (wpAny_bind (J.type.here (wpAny_bind (LM.here ?_))))
 rw [refuse_onlyV _ ho]
 exact wpAny_pure (wpAny_bind (J.type.here (wpAny_bind ((PySem.W.looks_findIn X ha).here (wpAny_bind (LT.here (h _)))))))
section
variable {prog:Program} {w:World} {A:Around} {E:Value→Shared→Prop} {s:Shared} {K:PySem.W.Frag} {x C:Addr} {ox:Obj} {name:Str} {v:Value}
theorem set_exc {Q:Unit→Shared→Prop} (X:K.In s.heap) (J:PySem.W.InstAt s.heap x ox C none) (hx:s.heap.get? x=some ox)
  (hs:PySem.W.findIn K (.ref C) "__setattr__" = some (some (.builtin "object.__setattr__"))) (hp:overV K C=true) (ht:PySem.W.takerIn K C name=some none) (hh:PySem.W.hasDictIn K C=true) {vs:Array Value} {sl:Array (Option Value)} (hox:ox = {cls:=.ref C,dict:=none,data:=.fields vs,slots:=sl})
  (h:∀h',h'.get? x=some {cls:=.ref C,dict:=some s.heap.objs.size,data:=.fields vs,slots:=sl}→h'.Ns1 s.heap.objs.size (fun y=>if y=name then some v else none)→(∀b o,b≠x→b≠s.heap.objs.size→s.heap.get? b=some o→h'.get? b=some o)→Q () {s with heap:=h',toks:=s.toks + 2}):wpAny (model prog w) A (setAttr (.ref x) name v) Q E s:=by
 refine PySem.W.set_plain X J hs (osa_openV (s:={s with toks:=s.toks + 1}) X J hp ht fun b=>?_)
 obtain ⟨cd,hcd,hd'⟩:=PySem.W.any_some hh
 dsimp only
 unfold Builtin.ObjectAttr.storeInOwnDict
 refine wpAny_bind (wpAny_pure (wpAny_bind ?_))
 unfold Builtin.ObjectAttr.ownDictForStores instanceDict
 subst hox
 refine wpAny_bind (wpAny_loadPart hx (wpAny_bind (PySem.W.Looks.here (s:={s with toks:=s.toks + 1}) (PySem.W.looks_clsIn X hcd) ?_)))
 rw [hd']
 refine wpAny_ite_false rfl (wpAny_ite_false ?_ (wpAny_bind (wpAny_alloc' ?_)))
 ·rfl
 have hx1:(s.heap.push {cls:=.type "dict",data:=.dict #[]}).get? x=some {cls:=.ref C,dict:=none,data:=.fields vs,slots:=sl}:=Heap.get?_push_of_some _ hx
 refine wpAny_bind (wpAny_update' hx1 ?_)
 unfold dictMade
 refine wpAny_pure ?_
 have xl:=Heap.lt_size hx
 have xn:s.heap.objs.size≠x:=(Nat.ne_of_lt xl).symm
 generalize hh1:((s.heap.push {cls:=.type "dict",data:=.dict #[]}).update x fun o=>{cls:=o.cls,dict:=some s.heap.objs.size,data:=o.data,slots:=o.slots})=h1
 have e1:h1.get? s.heap.objs.size=some PySem.W.emptyDict:=by
  rw [← hh1,Heap.get?_update_ne _ _ _ _ xn]
  exact Heap.get?_push_size _ rfl
 have e2:h1.get? x=some {cls:=.ref C,dict:=some s.heap.objs.size,data:=.fields vs,slots:=sl}:=by
  rw [← hh1]
  exact Heap.get?_update_self _ hx1 rfl
 have e3:h1.Ns s.heap.objs.size (fun _=>none):=⟨PySem.W.emptyDict,#[],_,e1,rfl,(fun e he=>absurd he (by simp)),fun _=>rfl⟩
 have e4:∀b o,b≠x→s.heap.get? b=some o→h1.get? b=some o:=fun b o n q=>by
  rw [← hh1,Heap.get?_update_ne _ _ _ _ n]
  exact Heap.get?_push_of_some _ q
 unfold Builtin.ObjectAttr.storeInDict
 refine wpAny_bind (wpAny_pure (wpAny_bind ?_))
 refine wpAny_nsSet1 (s:={s with heap:=h1,toks:=s.toks + 1}) (Heap.Ns1.of_empty e3) fun h' hn2 hs2=>?_
 have hw:PySem.Within (fun _:Str=>(none:Option Value)) []:=fun y hy=>absurd rfl hy
 obtain ⟨oD,esD,epD,hoD,hdD,hcD⟩:=hn2.count (PySem.Within.cons name v hw)
 refine wpAny_bind (wpAny_lookBehind hoD (by rw [hdD]; exact pastItsLine_dict (Nat.le_trans hcD (by rw [sizeLine_eq]; show 1≤_; omega))) ?_)
 exact wpAny_pure (h _ ((hs2.2 _ xn.symm).trans e2) hn2 fun b o n1 n2 q=>(hs2.2 b n2).trans (e4 b o n1 q))
end
section
variable {prog:Program} {w:World} {A:Around} {E:Value→Shared→Prop} {s:Shared} {K:PySem.W.Frag}
theorem super_at {Q:Value→Shared→Prop} {body:List Stmt} {whole:Sem Value} {fI e C cc c2 L:Addr} {oI oe oC o2:Obj} {fd:FuncData} {cd:ClassData} {p0 p1:Pos} {ar:Arg} {cs:Array Value} {file:Str} {tf:Tok} {mg mb m:Str→Option Value}
  (X:K.In s.heap) (hfI:s.heap.get? fI=some oI) (hfd:oI.data = .func fd)
  (h1:fd.scope.names.lookup ("self" : Str)=some NameKind.local) (h3:fd.scope.names.lookup ("super" : Str)=some NameKind.globalImplicit) (h4:fd.scope.names.lookup ("__class__" : Str)=some NameKind.free) (g3:fd.scope.kind = .function) (hcl:fd.closure=[(("__class__" : Str),cc)])
  (hpa:(fd.params.posonlyargs ++ fd.params.args).head? = some ar) (har:ar.arg = "self") (hcd:fd.code = .ref c2) (hc2:s.heap.get? c2=some o2) (hc3:o2.data = .fields cs) (hc4:cs[2]? = some (.str file tf)) (hfi:(prog.main.file == file)=true)
  (hns:(prog.main.scope.names.lookup ("super" : Str)).isSome=false) (gN:s.heap.Ns fd.globals mg) (gs:mg "super" = none) (bN:s.heap.Ns fd.builtins mb) (bs:mb "super" = some (.type "super")) (hcc:s.heap.IsCell cc (some (.ref C)))
  (hL:s.heap.Ns L m) (hm:m "self" = some (.ref e)) (hC:s.heap.get? C=some oC) (hCd:oC.data = .cls cd) (he:s.heap.get? e=some oe) (hec:oe.cls = .ref C) (hen:∀c,oe.data≠.cls c)
  (hty:PySem.W.Looks (model prog w) s.heap (isType (.ref C)) true) (hself:PySem.W.Looks (model prog w) s.heap (isSubtype (.ref C) (.ref C)) true)
  (hq:∀(h':Heap),h'.get? s.heap.objs.size=some {cls:=.type "super",data:=.fields #[.ref C,.ref e,.ref C]}→(∀b o,s.heap.get? b=some o→h'.get? b=some o)→Q (.ref s.heap.objs.size) {s with heap:=h'}) :
  PySem.wpAt (model prog w) A (Code.func body (callEnv fd L fI)) (attributeBase (.Call (.Name "super" p0) [] [] p1) "__init__" (callEnv fd L fI) whole) Q E s:=by
 refine ks_wpAt_super_base (f:=fI) (cc:=c2) h3 h4 rfl rfl hfI hfd hpa hcd hc2 hc3 hc4 hfi hns ?_
 refine PySem.W.ks_loadName_global g3 h3 ?_
 unfold loadGlobal
 refine wpAny_bind (wpAny_nsGet gN ?_)
 rw [gs]
 refine wpAny_bind (wpAny_nsGet bN ?_)
 rw [bs]
 refine wpAny_pure ⟨rfl,wpAny_loadName_free (c:=cc) g3 h4 (by show List.lookup _ fd.closure=_; rw [hcl]; rfl) hcc ?_⟩
 rw [har]
 refine wpAny_loadName_local g3 h1 hL hm (hty.at ⟨rfl,?_⟩)
 obtain ⟨h,g,d,t,os⟩:=s
 exact ks_wpAny_call_super hC hCd he hec hen hself fun h' a b=>hq h' a b
end
section
variable {prog:Program} {w:World} {A:Around} {E:Value→Shared→Prop} {s:Shared}
theorem with_wrapper {Q:Value→Shared→Prop} {x:Sem Value} {fs:Expr} {env:Env} {pos:Pos} {mw:Addr} {vs:Array Value} (hst:starEach [fs] env=[(false,x)])
  (h:wpAny (model prog w) A x (fun u s1=>s1.heap.get? mw=some {cls:=.type "method-wrapper",data:=.fields vs}∧wpAny (model prog w) A (call (.ref mw) [u]) Q E s1) E s) :
  wpAny (model prog w) A (callWith pos (.ref mw) [] (backTo pos (starEach [fs] env)) []) Q E s:=by
 rw [hst]
 unfold callWith
 refine wpAny_bind (wpAny_holding (Calls.evalArgs_plain ?_))
 unfold spliced
 refine wpAny_bind (wpAny_ite_false rfl (thn h fun u s1 hz=>?_))
 obtain ⟨hm,hc⟩:=hz
 refine wpAny_ite_false rfl (wpAny_bind (wpAny_pure (wpAny_bind (wpAny_holding ?_))))
 unfold spliced
 refine wpAny_pure (wpAny_pure ?_)
 refine wpAny_bind (wpAny_standAt ?_)
 unfold keeperOf
 refine wpAny_bind (wpAny_bind (wpAny_load' hm (wpAny_ite_true (show decide ((Value.type "method-wrapper" != Value.type "method")=true)=true by decide +kernel) (wpAny_pure ?_))))
 have k:(if ((Value.type "method-wrapper" == Value.type "builtin_function_or_method") || (Value.type "method-wrapper" == Value.type "method-wrapper"))=true then Keeper.machine else Keeper.caller)=Keeper.machine:=by decide +kernel
 dsimp only
 rw [k]
 show wpAny (model prog w) A (do let r ← call (Value.ref mw) [u]; holding [r] point; pure r) Q E s1
 exact wpAny_bind (thn hc fun r s2 hr=>wpAny_bind (wpAny_holding (wpAny_point (wpAny_pure hr))))
end
section
variable {prog:Program} {w:World} {A:Around} {s:Shared} {K:PySem.W.Frag}
theorem lookS {Xn:Str} {u v:Value} (h:Xn≠"self"):List.lookup ("self" : Str) [(("self" : Str),v),(Xn,u)].reverse=some v:=by
 show List.lookup ("self" : Str) [(Xn,u),(("self" : Str),v)]=_
 have:(("self" : Str) == Xn)=false:=by simp [Ne.symm h]
 simp [List.lookup,this]
theorem init_run {R:Result→Shared→Prop} {fI e C cc c2:Addr} {oI oC o2:Obj} {fd:FuncData} {cd:ClassData} {Xn:Str} {u:Value} {p0 p1 p2 p3 p4 p5 p6 p7 p8:Pos} {fs:Expr} {ar:Arg} {cs:Array Value} {file:Str} {tf:Tok} {mg mb:Str→Option Value}
  {nm q:Str} {N:Addr} {bs bm:List Value} {hdct:Bool} {sn:List Str} {sub:List Value} {ab:Bool} {col:Option Bool} {dd:Option Addr} {k0 k1 k2 k3 k5:Option Value} {newId:String} {vs:Array Value} {sl:Array (Option Value)} {v0:Value}
  (X:K.In s.heap) (hd:A.depth < recursionLimit) (hfI:s.heap.get? fI=some oI) (hfd:oI.data = .func fd) (lim:s.heap.NoLimit) (hcr:s.heap.CodeRec fd.code fd.qualname)
  (hb:fd.body = .stmts [.Expr (.Call (.Attribute (.Call (.Name "super" p0) [] [] p1) "__init__" p2) [fs] [] p3) p4,.Assign [.Attribute (.Name "self" p5) Xn p6] (.Name Xn p7) p8])
  (hbi:BindsTo s fd ⟨[.ref e,u],[]⟩ [(("self" : Str),.ref e),(Xn,u)]) (hXs:Xn≠"self") (hce:∀x∈fd.scope.names,x.2≠NameKind.cell) (h1:fd.scope.names.lookup ("self" : Str)=some NameKind.local) (hX2:fd.scope.names.lookup Xn=some NameKind.local)
  (h3:fd.scope.names.lookup ("super" : Str)=some NameKind.globalImplicit) (h4:fd.scope.names.lookup ("__class__" : Str)=some NameKind.free) (g1:fd.scope.isCoroutine=false) (g2:fd.scope.isGenerator=false) (g3:fd.scope.kind = .function) (hcl:fd.closure=[(("__class__" : Str),cc)])
  (hpa:(fd.params.posonlyargs ++ fd.params.args).head? = some ar) (har:ar.arg = "self") (hcd:fd.code = .ref c2) (hc2:s.heap.get? c2=some o2) (hc3:o2.data = .fields cs) (hc4:cs[2]? = some (.str file tf)) (hfi:(prog.main.file == file)=true)
  (hns:(prog.main.scope.names.lookup ("super" : Str)).isSome=false) (gN:s.heap.Ns fd.globals mg) (gs:mg "super" = none) (bN:s.heap.Ns fd.builtins mb) (bs':mb "super" = some (.type "super")) (hcc:∀h':Heap,(∀b o,s.heap.get? b=some o→h'.get? b=some o)→h'.IsCell cc (some (.ref C)))
  (hC:s.heap.get? C=some (excClassObj nm q C N bs bm hdct sn sub ab col dd k0 k1 k2 k3 k5 newId)) (T:OwnTail s.heap bmV bm) (he:s.heap.get? e=some {cls:=.ref C,dict:=none,data:=.fields vs,slots:=sl}) (hv0:vs[0]? = some v0) (heC:e≠C)
  (hty:∀h:Heap,K.In h→PySem.W.Looks (model prog w) h (isType (.ref C)) true) (hself:∀h:Heap,K.In h→PySem.W.Looks (model prog w) h (isSubtype (.ref C) (.ref C)) true) (hval:∀h:Heap,K.In h→PySem.W.Looks (model prog w) h (isSubtype (.ref C) (.type "ValueError")) true)
  (hno:∀h:Heap,K.In h→PySem.W.Looks (model prog w) h (opaqueClassAbove (.ref C)) none) (hmr:∀h:Heap,K.In h→PySem.W.Looks (model prog w) h (mroOf (.ref C)) (.ref C :: bm))
  (hst:∀L,starEach [fs] (callEnv fd L fI)=[(false,eval fs (callEnv fd L fI))])
  (pl:Addr→Sem Bool) (heq:∀L,eval (.Call (.Attribute (.Call (.Name "super" p0) [] [] p1) "__init__" p2) [fs] [] p3) (callEnv fd L fI)=do
   let ov ← attributeBase (.Call (.Name "super" p0) [] [] p1) "__init__" (callEnv fd L fI) (eval (.Call (.Name "super" p0) [] [] p1) (callEnv fd L fI))
   standAt p2.atName
   let x ← holding [ov] (getMethod ov "__init__" (pl L))
   match x with
   | (f,first)=>callWith p3 f first (backTo p3 (starEach [fs] (callEnv fd L fI))) []) (hin:∀L,interactive (callEnv fd L fI)=false) (hsw:∀L,swapsWith (.Name Xn p7) (some (.Attribute (.Name "self" p5) Xn p6)) p8.line (callEnv fd L fI)=pure false)
  (hs:PySem.W.findIn K (.ref C) "__setattr__" = some (some (.builtin "object.__setattr__"))) (hp:overV K C=true) (ht:PySem.W.takerIn K C Xn=some none) (hh:PySem.W.hasDictIn K C=true)
  (hdb:(Xn == ("__debug__" : Str))=false) (hKe:∀o,K.lookup e≠some o) (hJ:∀(h:Heap) (vs':Array Value),h.get? e=some {cls:=.ref C,dict:=none,data:=.fields vs',slots:=sl}→PySem.W.InstAt h e {cls:=.ref C,dict:=none,data:=.fields vs',slots:=sl} C none)
  (hq:∀(h':Heap) (dx t:Addr) (tk:Nat),s.heap.get? dx=none→h'.get? e=some {cls:=.ref C,dict:=some dx,data:=.fields (vs.setIfInBounds 0 (.ref t)),slots:=sl}→h'.Ns1 dx (fun y=>if y=Xn then some u else none)→(∀b o,b≠e→s.heap.get? b=some o→h'.get? b=some o)→R (.ok (.ret .none)) {s with heap:=h',toks:=tk})
  (hf:∀(L:Addr) (A1:Around) (s1:Shared) (E1:Value→Shared→Prop) (Q1:Value→Shared→Prop),(s1.heap.Ns L fun x=>List.lookup x [(("self" : Str),Value.ref e),(Xn,u)].reverse)→(∀msg tk,Q1 msg {s1 with toks:=tk})→wpAny (model prog w) A1 (eval fs (callEnv fd L fI)) Q1 E1 s1) :
  codeAny (model prog w) A (.call (.ref fI) ⟨[.ref e,u],[]⟩) R s:=by
 refine ks_codeAny_call_defAt hd hfI hfd lim hcr hb hbi hce ?_ (fun h0 hn hk=>?_) g1 g2 g3
 ·intro x hx
  rcases List.mem_cons.mp hx with z | z
  ·rw [z]; exact h1
  ·rw [List.mem_singleton.mp z]; exact hX2
 have X0:=X.keeps hk
 refine ks_wpAt_execs_cons (ks_wpAt_Expr_any (ks_wpAt_MethodCall (pl:=pl s.heap.objs.size) (super_at (K:=K) (oC:=excClassObj nm q C N bs bm hdct sn sub ab col dd k0 k1 k2 k3 k5 newId) (e:=e) X0 (hk _ _ hfI) hfd h1 h3 h4 g3 hcl hpa har hcd (hk _ _ hc2) hc3 hc4 hfi hns (gN.keeps hk) gs (bN.keeps hk) bs' (hcc _ hk) hn ?self (hk _ _ hC) rfl (hk _ _ he) rfl (by intro c z; cases z) (hty _ X0) (hself _ X0) (fun h1' so1 k1'=>?go)) ?eq) ?i1 ?i2)
 case eq=>exact heq _
 case i1=>exact hin _
 case i2=>rfl
 case self=>exact lookS hXs
 case go=>
  have hk1:∀b o,s.heap.get? b=some o→h1'.get? b=some o:=fun b o z=>k1' _ _ (hk _ _ z)
  have X1:=X.keeps hk1
  have T1:=T.keeps hk1
  refine super_init (l₀:=.ref C :: bm) (l:=bm) so1 (hno _ X1) (hmr _ X1) (by simp) heC T1 (hk1 _ _ he) rfl (hval _ X1) ?_
  refine with_wrapper (hst _) (hf _ _ _ _ _ ?_ fun msg tk=>⟨Heap.get?_push_size _ rfl,?_⟩)
  ·exact (hn.keeps k1').keeps fun b o z=>Heap.get?_push_of_some _ z
  refine call_wrapper (Heap.get?_push_size _ rfl) (Heap.get?_push_of_some _ (hk1 _ _ hC)) (Heap.get?_push_of_some _ (hk1 _ _ he)) rfl rfl hv0 ?_
  dsimp only
  generalize hh1:((h1'.push {cls:=.type "method-wrapper",data:=.fields #[.builtin "ValueError.__init__",.ref e]}).push {cls:=.type "tuple",data:=.seq #[msg]}).update e (Obj.mapFields fun y=>y.setIfInBounds 0 (.ref (h1'.push {cls:=.type "method-wrapper",data:=.fields #[.builtin "ValueError.__init__",.ref e]}).objs.size))=h2
  have e0:((h1'.push {cls:=.type "method-wrapper",data:=.fields #[.builtin "ValueError.__init__",.ref e]}).push {cls:=.type "tuple",data:=.seq #[msg]}).get? e=some {cls:=.ref C,dict:=none,data:=.fields vs,slots:=sl}:=Heap.get?_push_of_some _ (Heap.get?_push_of_some _ (hk1 _ _ he))
  have e2:h2.get? e=some {cls:=.ref C,dict:=none,data:=.fields (vs.setIfInBounds 0 (.ref (h1'.push {cls:=.type "method-wrapper",data:=.fields #[.builtin "ValueError.__init__",.ref e]}).objs.size)),slots:=sl}:=by
   rw [← hh1]
   exact Heap.get?_update_self _ e0 rfl
  have k2:∀b o,b≠e→h1'.get? b=some o→h2.get? b=some o:=fun b o n z=>by
   rw [← hh1,Heap.get?_update_ne _ _ _ _ n]
   exact Heap.get?_push_of_some _ (Heap.get?_push_of_some _ z)
  have k3:∀b o,b≠e→s.heap.get? b=some o→h2.get? b=some o:=fun b o n z=>k2 b o n (hk1 b o z)
  refine ks_wpAt_execs_cons (ks_wpAt_Assign_Attr (PySem.wpAt_of_wpAny ?_) (hsw _))
  have L0:s.heap.objs.size≠e:=(Nat.ne_of_lt (Heap.lt_size he)).symm
  have no2:h2.get? h2.objs.size=none:=Heap.get?_none_of_le (Nat.le_refl _)
  have hn2:h2.Ns s.heap.objs.size fun x=>List.lookup x [(("self" : Str),Value.ref e),(Xn,u)].reverse:=by
   obtain ⟨o,es,ep,z1,z2⟩:=hn.keeps k1'
   exact ⟨o,es,ep,k2 _ _ L0 z1,z2⟩
  have hmX:List.lookup Xn [(("self" : Str),Value.ref e),(Xn,u)].reverse=some u:=by simp [List.lookup]
  have hmS:List.lookup ("self" : Str) [(("self" : Str),Value.ref e),(Xn,u)].reverse=some (Value.ref e):=lookS hXs
  refine wpAny_Name (wpAny_loadName_local g3 hX2 hn2 hmX (wpAny_Name (wpAny_loadName_local g3 h1 hn2 hmS ?_) (by decide))) hdb
  have X2:K.In h2:=fun a o z=>k3 a o (fun y=>hKe o (y ▸ z)) (X a o z)
  refine set_exc X2 (hJ _ _ e2) e2 hs hp ht hh rfl fun h3' y1 y2 y3=>?_
  refine PySem.wpAt_of_wpAny (wpAny_execs_nil ?_)
  refine hq h3' _ _ _ ?_ y1 y2 fun b o n z=>y3 b o n (fun y=>?_) (k3 b o n z)
  ·cases z:s.heap.get? h2.objs.size with
   | none=>rfl
   | some o=>
    by_cases ne:h2.objs.size=e
    ·rw [ne,e2] at no2; cases no2
    ·have:=k3 _ _ ne z
     rw [no2] at this; cases this
  ·have:=k3 _ _ n z
   rw [y,no2] at this; cases this
end
section
variable {prog:Program} {w:World} {A:Around} {E:Value→Shared→Prop} {s:Shared}
theorem fstr_eval {Q:Value→Shared→Prop} {env:Env} {x Xn y:Str} {k:Nat} {pa pb pc pd:Pos} {m:Str→Option Value} {v:V} {u:Value} (g3:env.scope.kind = .function) (hX:env.kindOf Xn=some NameKind.local) (hdb:(Xn == ("__debug__" : Str))=false)
  (hn:s.heap.Ns env.locals m) (hm:m Xn=some u) (r:RelV v u) (sh:Shown v y) (hx:(Str.empty ++ x).length≤sizeLine) (hl:(Str.empty ++ x ++ y).length≤sizeLine) (hq:∀msg tk,Q msg {s with toks:=tk}) :
  wpAny (model prog w) A (eval (.JoinedStr [.Constant (.str x) k pa,.FormattedValue (.Name Xn pb) (-1) none pc] pd) env) Q E s:=by
 refine wpAny_JoinedStr (Joins_cons (Calls.Constant_str ⟨x,_,rfl,hx,Joins_cons (wpAny_FormattedValue_plain (wpAny_Name (wpAny_loadName_local g3 hX hn hm ?_) hdb))⟩))
 cases sh with
 | int hz=>
  obtain ⟨t1,rfl⟩:=r
  exact wpAny_formatField_int hz ⟨_,_,rfl,hl,⟨hl,hq _ _⟩⟩
 | str hz=>
  obtain ⟨t1,rfl⟩:=r
  exact wpAny_formatField_str ⟨_,_,rfl,hl,⟨hl,hq _ _⟩⟩ ⟨_,_,rfl,hl,⟨hl,hq _ _⟩⟩ hz
 | non=>
  cases r
  exact wpAny_formatField_none ⟨_,_,rfl,hl,⟨hl,hq _ _⟩⟩
end
section
variable {nm q:Str} {C N:Addr} {bs bm:List Value} {hdct:Bool} {sn:List Str} {sub:List Value} {ab:Bool} {col:Option Bool} {dd:Option Addr} {k0 k1 k2 k3 k5:Option Value} {newId:String}
theorem raise_madeD {M:Model} {A:Around} {E:Value→Shared→Prop} {env:Env} {s:Shared} {x:Sem Value} {Q:Flow→Shared→Prop} (hbase:bm.contains (.type "BaseException")=true) (hh:A.handled=none)
  (h:wpAny M A x (fun v s1=>∃e dx vs sl,v = .ref e∧s1.heap.get? C=some (excClassObj nm q C N bs bm hdct sn sub ab col dd k0 k1 k2 k3 k5 newId)∧s1.heap.get? e=some {cls:=.ref C,dict:=dx,data:=.fields vs,slots:=sl}∧vs[1]? = some .none∧vs[2]? = some .none∧E (.ref e) s1) E s) :
  wpAny M A (raiseStmt env (some x) none) Q E s:=by
 have up:(Value.ref C :: bm).contains (.type "BaseException")=true:=by rw [List.contains_cons,hbase,Bool.or_true]
 unfold raiseStmt
 refine wpAny_bind (wpAny_mono h (fun v s1 h1=>?_) fun _ _ z=>z)
 obtain ⟨e,dx,vs,sl,rfl,hC,he,v1,v2,hE⟩:=h1
 obtain ⟨hp,g,d,tk,os⟩:=s1
 repeat (first | with_reducible refine wpAny_loadPart_at he ?_ | with_reducible refine wpAny_loadPart_at hC ?_ | (with_reducible refine wpAny_isSubtype_exc hC ?_; rw [up]) | wp_step)
 rw [v1]
 exact wpAny_pure (wpAny_ite_false (by decide) (wpAny_pure (wpAny_raiseNew_none hh hE)))
theorem raise_callI {prog:Program} {w:World} {A:Around} {E:Value→Shared→Prop} {env:Env} {s:Shared} {mN:Str→Option Value} {x:Str} {np cpos pos:Pos} {args:List Expr} {fI:Addr} {Q:Flow→Shared→Prop}
  (hbase:bm.contains (.type "BaseException")=true) (hh:A.handled=none) (hpl:(backTo cpos (starEach args env)).any (·.1)=false) (hi:mN (Str.ofString "__init__")=some (.ref fI))
  (h:wpAny (model prog w) A (eval (.Name x np) env) (fun f s1=>f = .ref C∧wpAny (model prog w) A (evalArgs (.ref C) true (backTo cpos (starEach args env)) [])
   (fun a s2=>a.kw=[]∧a.pos.length≤sizeLine∧s2.heap.get? C=some (excClassObj nm q C N bs bm hdct sn sub ab col dd k0 k1 k2 k3 k5 "ValueError.__new__")∧s2.heap.Ns N mN∧OwnTail s2.heap bmV bm∧(∃oI,s2.heap.get? fI=some oI∧oI.cls = .type "function")∧
    ∀h' e,Heap.MadeExcOf s2.heap h' e (.ref C) a.pos→wpAny (model prog w) (A.under (Code.builtin "type.__call__" {pos:=Value.ref C :: a.pos})) (call (.ref fI) (.ref e :: a.pos))
     (fun r s'=>r = .none∧∃dx vs sl,s'.heap.get? C=some (excClassObj nm q C N bs bm hdct sn sub ab col dd k0 k1 k2 k3 k5 "ValueError.__new__")∧s'.heap.get? e=some {cls:=.ref C,dict:=dx,data:=.fields vs,slots:=sl}∧vs[1]? = some .none∧vs[2]? = some .none∧E (.ref e) s') E {s2 with heap:=h'}) E s1) E s) :
  wpAny (model prog w) A (exec (.Raise (some (.Call (.Name x np) args [] cpos)) none pos) env) Q E s:=by
 rw [arm_exec_Raise]
 refine wpAny_bind (wpAny_standAt (raise_madeD (C:=C) (nm:=nm) (q:=q) (N:=N) (bs:=bs) (bm:=bm) (hdct:=hdct) (sn:=sn) (sub:=sub) (ab:=ab) (col:=col) (dd:=dd) (k0:=k0) (k1:=k1) (k2:=k2) (k3:=k3) (k5:=k5) (newId:="ValueError.__new__") hbase hh ?_))
 refine wpAny_bind (wpAny_mono (wpAny_Call_ofName (wpAny_mono h (fun f s1 h1=>?_) fun _ _ z=>z)) (fun v s3 h3=>wpAny_bind (wpAny_standAt (wpAny_pure h3))) fun _ _ z=>z)
 obtain ⟨rfl,h1⟩:=h1
 unfold callWith
 refine wpAny_bind (wpAny_holding (wpAny_mono h1 (fun a s2 h2=>wpAny_bind (wpAny_standAt ?_)) fun _ _ z=>z))
 obtain ⟨ap,ak⟩:=a
 obtain ⟨hk,hl,hC,hn,T,⟨oI,hf,hfc⟩,h2⟩:=h2
 obtain rfl:ak=[]:=hk
 obtain ⟨hp,g,d,tk,os⟩:=s2
 simp only [hpl]
 refine wpAny_bind (wpAny_keeperOf_exc hC ?_)
 refine wpAny_bind (call_initT (hrest:=hl) PySem.F.excBase_ValueError T hC hn hi hf hfc fun h' e hm=>?_)
 refine wpAny_mono (h2 h' e hm) (fun r s' z=>⟨z.1,wpAny_bind (wpAny_holding (wpAny_point (wpAny_pure ?_)))⟩) fun _ _ z=>z
 obtain ⟨_,dx,vs,sl,z1,z2,z3,z4,z5⟩:=z
 exact ⟨e,dx,vs,sl,rfl,z1,z2,z3,z4,z5⟩
end
structure InitK (P:Program) (w:World) (K:PySem.W.Frag) (mg:Str→Option Value) (C fI:Addr) (Xn:Str):Prop where
 obj:∀{h:Heap},K.In h→∃bm N nm qn bs hd sn sub ab col dd k0 k1 k2 k3 k5 mN,h.get? C=some (excClassObj nm qn C N bs bm hd sn sub ab col dd k0 k1 k2 k3 k5 "ValueError.__new__")∧h.Ns N mN∧mN (Str.ofString "__init__")=some (.ref fI)∧OwnTail h bmV bm
 fn:∃oI,K.lookup fI=some oI∧oI.cls = .type "function"
 run:∀(A:Around) (s:Shared) (e:Addr) (v:V) (u:Value) (y:Str) (R:Result→Shared→Prop) (vs:Array Value) (sl:Array (Option Value)) (v0:Value),K.In s.heap→A.depth < recursionLimit→s.heap.NoLimit→s.heap.Ns mainGlobals mg→
  (∃mb,s.heap.Ns builtinsNs mb∧∀x:Str,x≠"__name__"→mb x=bootBuiltins x)→s.heap.get? e=some {cls:=.ref C,dict:=none,data:=.fields vs,slots:=sl}→vs[0]? = some v0→K.lookup e=none→RelV v u→Shown v y→y.length≤700→
  (∀(h':Heap) (dx t:Addr) (tk:Nat),s.heap.get? dx=none→h'.get? e=some {cls:=.ref C,dict:=some dx,data:=.fields (vs.setIfInBounds 0 (.ref t)),slots:=sl}→h'.Ns1 dx (fun y=>if y=Xn then some u else none)→
   (∀b o,b≠e→s.heap.get? b=some o→h'.get? b=some o)→R (.ok (.ret .none)) {s with heap:=h',toks:=tk})→codeAny (model P w) A (.call (.ref fI) ⟨[.ref e,u],[]⟩) R s
def tRaiseI (C:Addr) (Xn:Str) (E:XK) (t:TA):TS:=fun _ σ H=>t σ H fun vs H1=>∃v,vs=[v]∧(∃y,Shown v y∧y.length≤700)∧∀dx,H1 dx=none→E (.ref C) (some dx) (upd H1 dx (.xd [(Xn,v)]))
theorem un_new {fs ex:List Addr} {H H':Hp} {h h':Heap} {a:Addr} {o:HO} (u:Un fs ex H H' h h') (n:h.get? a=none) (e:H' a=none):Un fs ex H (upd H' a o) h h':=
  have ne:∀b u,H' b=some u→b≠a:=fun b u q z=>by rw [z,e] at q; cases q
  ⟨u.keep,u.slot,fun b o q m hx=>by rw [upd_ne (fun z=>by rw [z,n] at q; cases q)]; exact u.free b o q m hx,u.there,fun b xs q=>by rw [upd_ne (ne b _ (u.tups b xs q))]; exact u.tups b xs q,
   fun b o xs q=>by rw [upd_ne (ne b _ (u.frzs b o xs q))]; exact u.frzs b o xs q,fun b p q=>by
    obtain ⟨m,z⟩:=u.tbls b p q
    exact ⟨m,by rw [upd_ne (ne b _ z)]; exact z⟩⟩
theorem hok_new {P:Program} {w:World} {H:Hp} {h h':Heap} {a:Addr} {o:HO} (x:HOk P w H h) (k:∀b u,h.get? b=some u→h'.get? b=some u) (e:H a=none) (new:ObjOk P w (upd H a o) h' a o):HOk P w (upd H a o) h':=fun b u q=>by
 by_cases hb:b=a
 ·subst hb
  rw [upd_same] at q; cases q
  exact new
 ·rw [upd_ne hb] at q
  have ne:∀c v,H c=some v→c≠a:=fun c v r z=>by rw [z,e] at r; cases r
  exact (x b u q).stay (fun c v _ r=>k c v r) (fun c r=>by rw [upd_ne (ne c _ r)]; exact r) fun c xs r=>by rw [upd_ne (ne c _ r)]; exact r
section
variable {P:Program} {w:World} {K:PySem.W.Frag} {mg:Str→Option Value} {base:Heap} {N:List Str} {qual:Str} {scope:Scope} {f:Addr} {cd:Value} {A:Around} {outer:List Env} {s:Shared} {H:Hp} {E:XK}
theorem ps_raiseI {x Xn:Str} {C fI:Addr} {e0:Expr} {t:TA} {k:Nat} {np cpos pos:Pos} (hA:Room (k + 1) (cxOf (CXE P w) P w K mg base N qual scope f cd A outer s H E).A)
  (hc:(cxOf (CXE P w) P w K mg base N qual scope f cd A outer s H E).calm=true) (hg:Gl (cxOf (CXE P w) P w K mg base N qual scope f cd A outer s H E) x) (hm:mg x=some (.ref C)) (q:InitK P w K mg C fI Xn) (ha:PA (cxOf (CXE P w) P w K mg base N qual scope f cd A outer s H E) [e0] t) (hd:(x == ("__debug__" : Str))=false:=by decide)
  (he:starEach [e0] (cxOf (CXE P w) P w K mg base N qual scope f cd A outer s H E).env=[(false,eval e0 (cxOf (CXE P w) P w K mg base N qual scope f cd A outer s H E).env)]:=by rfl) :
  PS (cxOf (CXE P w) P w K mg base N qual scope f cd A outer s H E) (.Raise (some (.Call (.Name x np) [e0] [] cpos)) none pos) (tRaiseI C Xn E t):=by
 intro pins s0 σ H0 D I h
 obtain ⟨bm,Nn,nm,qn,bs,hdt,sn,sub,ab,col,dd,k0,k1,k2,k3,k5,mN,hC,hN,hi,T⟩:=q.obj I.mod.kin
 refine raise_callI (C:=C) (nm:=nm) (q:=qn) (N:=Nn) (bs:=bs) (bm:=bm) (hdct:=hdt) (sn:=sn) (sub:=sub) (ab:=ab) (col:=col) (dd:=dd) (k0:=k0) (k1:=k1) (k2:=k2) (k3:=k3) (k5:=k5) (mN:=mN) (T.hasType PySem.F.excBase_ValueError.hasBase) (I.ok.hd hc) (by rw [he]; rfl) hi (ld_glob I hg hm ⟨rfl,?_⟩ hd)
 have hb:=ha cpos pins s0 σ H0 _ I h
 rw [he] at hb ⊢
 refine Calls.evalArgs_plain (thn hb fun us s1 ⟨vs,H1,I1,r1,v,hv,⟨y,sh,hy⟩,z⟩=>?_)
 subst hv
 obtain ⟨oI,lI,cI⟩:=q.fn
 cases r1 with
 | @cons _ u _ _ r rt=>
 cases rt
 refine ⟨rfl,(by show 1≤sizeLine; decide),I1.bk _ _ hC,hN.keeps I1.bk,T.keeps I1.bk,⟨oI,I1.kIn _ _ lI,cI⟩,fun h' e hm=>?_⟩
 obtain ⟨t1,e1,t2,t3⟩:=hm.there
 obtain ⟨mb,b1,b2⟩:=I1.mod.blt
 have kb:∀b o,base.get? b=some o→h'.get? b=some o:=fun b o z=>hm.keeps _ _ (I1.bk b o z)
 have lk:K.lookup e=none:=by
  cases z:K.lookup e with
  | none=>rfl
  | some o=>have y:=I1.kIn _ _ z; rw [hm.new] at y; cases y
 refine wpAny_call (q.run _ {s1 with heap:=h'} e v u y _ _ _ _ (I1.kIn.keeps hm.keeps) (hA.make C [u] []).depth (I1.nolimit.keeps hm.keeps) (I1.mod.glob.keeps kb) ⟨mb,b1.keeps kb,b2⟩ e1 rfl lk r sh hy fun h2 dx t' tk n1 n2 n3 n4=>?_)
 have k2:∀b o,s1.heap.get? b=some o→h2.get? b=some o:=fun b o z=>n4 b o (fun y=>by rw [y,hm.new] at z; cases z) (hm.keeps b o z)
 have dn:s1.heap.get? dx=none:=by
  cases z:s1.heap.get? dx with
  | none=>rfl
  | some o=>have y:=hm.keeps _ _ z; rw [n1] at y; cases y
 have hdx:=I1.hok.none_of dn
 have ed:e≠dx:=fun y=>by rw [← y,e1] at n1; cases n1
 have nw:ObjOk P w (upd H1 dx (.xd [(Xn,v)])) h2 dx (.xd [(Xn,v)]):=⟨_,n3,fun f=>by
  by_cases hf:f=Xn
  ·subst hf; simp only [List.lookup,beq_self_eq_true,if_true]; exact r
  ·have z:(f == Xn)=false:=beq_eq_false_iff_ne.mpr hf
   simp only [List.lookup,z,if_neg hf]; exact trivial⟩
 exact ⟨rfl,some dx,_,_,k2 _ _ (I1.bk _ _ hC),n2,rfl,rfl,
  throw_out (s2:={s1 with heap:=h2,toks:=tk}) I1 rfl I1.bare (un_new (Un.kept k2) dn hdx) (hok_new I1.hok k2 hdx nw) (by rw [upd_ne ed]; exact I1.hok.none_of hm.new) hm.new n2 rfl rfl rfl (z dx hdx)⟩
end
section
variable {prog:Program} {w:World} {A:Around} {E:Value→Shared→Prop} {K:PySem.W.Frag} {C e:Addr} {ox:Obj} {od:Option Obj}
theorem ga_own {s:Shared} {name:Str} {tk:Tok} {v:Value} {Q:PySem.Fin→Shared→Prop} (X:K.In s.heap) (J:PySem.W.InstAt s.heap e ox C od) (hf:PySem.W.findObj K C od name=some (.value v)) (h:Q (.done (.ret v)) s) :
  wpAny (model prog w) A (Builtin.«object.__getattribute__» ⟨[.ref e,.str name tk],[]⟩) Q E s:=by
 obtain ⟨hh,gg,d,t,os⟩:=s
 have T0:=J.type (M:=model prog w)
 have T1:=PySem.W.looks_find (M:=model prog w) X J hf
 unfold Builtin.«object.__getattribute__»
 repeat (first | with_reducible refine T0.at ?_ | with_reducible refine T1.at ?_ | wp_step)
 exact h
theorem exc_attr {s:Shared} {name:Str} {v:Value} {expr:Bool} {Q:Value→Shared→Prop} (c:ClsX K C) (X:K.In s.heap) (J:PySem.W.InstAt s.heap e ox C od) (hf:PySem.W.findObj K C od name=some (.value v)) (hv:PySem.W.handedIn v=true) (h:Q v {s with toks:=s.toks + 1}) :
  wpAny (model prog w) A (getAttr (.ref e) name expr) Q E s:=by
 obtain ⟨hh,gg,d,t,os⟩:=s
 have T0:=J.type (M:=model prog w)
 have T1:=PySem.W.looks_findIn (M:=model prog w) X c.ga
 have T2:=PySem.W.looks_findIn (M:=model prog w) X c.no
 have f3:=PySem.F.attr_ValueError.ga.bind (.ref e)
 unfold getAttr getAttrBy
 refine wpAny_bind (wpAny_mkText (wpAny_holding (wpAny_bind (T0.at (wpAny_bind (T1.at ?_))))))
 have e1:(onTheHeap (Value.ref C) && Value.builtin "BaseException.__getattribute__" == Value.builtin "object.__getattribute__")=false:=by
  have z:(Value.builtin "BaseException.__getattribute__" == Value.builtin "object.__getattribute__")=false:=by decide +kernel
  rw [z,Bool.and_false]
 dsimp only
 rw [e1]
 simp only [Bool.false_eq_true,if_false]
 unfold getAttrByItsOwn hookBefore
 repeat (first | with_reducible refine T2.at ?_ | assumption | wp_step)
 refine wpAny_ite_false (by cases expr <;> rfl) ?_
 unfold boundAndCalled
 repeat (first | assumption | wp_step)
 refine codeAny_call_builtin PySem.F.attr_ValueError.ga.plain F.entry_bexc_ga (ga_check c X J (ga_own X J hf ?_))
 show wpAny (model prog w) A (handedOut v) _ _ _
 exact PySem.W.handed_on hv h
end
def tXd (K:PySem.W.Frag) (ta:TE) (f:Str):TE:=fun σ H Q=>ta σ H fun x H1=>∃e C d fs v,x = .ref e∧H1 e=some (ExcD C e (some d))∧H1 d=some (.xd fs)∧ClsX K C∧PySem.W.findIn K (.ref C) f=some none∧fs.lookup f=some v∧Q v H1
theorem pe_xd {X:Cx} {o:Expr} {f:Str} {pos:Pos} {ta:TE} (he:PE X o ta) (hb:attributeBase o f X.env (eval o X.env)=eval o X.env:=by rfl):PE X (.Attribute o f pos) (tXd X.K ta f):=by
 intro pins s σ H Q I h
 refine attr_of hb (thn (he pins s σ H _ I h) fun u s1 ⟨x,H1,I1,rx,e,C,d,fs,v,ex,ee,ed,c,n,l,q⟩=>?_)
 subst ex
 obtain rfl:u=Value.ref e:=rx
 obtain ⟨⟨o,h1,h2,h3,h4⟩,_⟩:=I1.hok _ _ ee
 obtain ⟨mA,ns,r⟩:=I1.hok _ _ ed
 obtain ⟨od,g1,g2⟩:=lookIn_ns ns
 obtain ⟨u,hu,ru⟩:=RelO.some_of (v:=v) (o:=mA f) (by rw [← l]; exact r f)
 have J:PySem.W.InstAt s1.heap e o C (some od):=⟨h1,h2,h4,by rw [h3]; exact g1⟩
 exact exc_attr c I1.kIn J (PySem.W.findObj_own c.hd n rfl (by rw [g2,hu])) (handed_of ru) ⟨v,H1,I1.tok _,ru,q⟩
theorem ns_some {K:PySem.W.Frag} {h:Heap} {N:Addr} {m:Str→Option Value} {x:Str} {v:Value} (X:K.In h) (G:h.Ns N m) (e:PySem.W.nsIn K N x=some (some v)):m x=some v:=by
 obtain ⟨o,es,ep,g1,g2,_,g3⟩:=G
 unfold PySem.W.nsIn at e
 split at e
 next a b fs fp sl lk=>
  have z:=(X _ _ lk).symm.trans g1
  cases z
  cases g2
  split at e
  next en hen=>
   cases e
   rw [← g3]
   unfold nsFind findBy
   rw [← Array.find?_toList,hen]
   rfl
  next=>
   split at e
   ·cases e
   ·cases e
 next=>cases e
theorem strLen (a b:Str):(a ++ b).length=a.length + b.length:=by
 show (a.cps ++ b.cps).size=a.cps.size + b.cps.size
 exact Array.size_append ..
theorem super_boot:bootBuiltins "super" = some (.type "super"):=by decide +kernel
theorem initK_mk {P:Program} {w:World} {K:PySem.W.Frag} {mg:Str→Option Value} {C fI cc c2:Addr} {Xn msg:Str} {odf o2d occd:Option Addr} {slf o2s ocs:Array (Option Value)} {o2c occ:Value} {fd:FuncData} {cs:Array Value} {file:Str} {tf:Tok} {ar:Arg} {k:Nat} {p0 p1 p2 p3 p4 p5 p6 p7 p8 pa pb pc pd:Pos}
  {bm:List Value} {N:Addr} {nm qn:Str} {bs:List Value} {hd ab:Bool} {sn:List Str} {sub:List Value} {col:Option Bool} {dd:Option Addr} {k0 k1 k2 k3 k5:Option Value} (lC:K.lookup C=some (excClassObj nm qn C N bs bm hd sn sub ab col dd k0 k1 k2 k3 k5 "ValueError.__new__")) (tl:PySem.W.tailIn K bmV bm=true) (no:PySem.W.nsOkIn K N=true) (ni:PySem.W.nsIn K N "__init__" = some (some (.ref fI))) (lf:K.lookup fI=some ⟨.type "function",odf,.func fd,slf⟩) (cq:PySem.W.codeIn K fd.code fd.qualname=true)
  (hb:fd.body = .stmts [.Expr (.Call (.Attribute (.Call (.Name "super" p0) [] [] p1) "__init__" p2) [.JoinedStr [.Constant (.str msg) k pa,.FormattedValue (.Name Xn pb) (-1) none pc] pd] [] p3) p4,.Assign [.Attribute (.Name "self" p5) Xn p6] (.Name Xn p7) p8])
  (hbi:∀(s:Shared) (e:Addr) (u:Value),BindsTo s fd ⟨[.ref e,u],[]⟩ [(("self" : Str),.ref e),(Xn,u)]) (hXs:Xn≠"self") (hce:∀x∈fd.scope.names,x.2≠NameKind.cell) (h1:fd.scope.names.lookup ("self" : Str)=some NameKind.local) (hX2:fd.scope.names.lookup Xn=some NameKind.local)
  (h3:fd.scope.names.lookup ("super" : Str)=some NameKind.globalImplicit) (h4:fd.scope.names.lookup ("__class__" : Str)=some NameKind.free) (g1:fd.scope.isCoroutine=false) (g2:fd.scope.isGenerator=false) (g3:fd.scope.kind = .function) (hcl:fd.closure=[(("__class__" : Str),cc)])
  (hpa:(fd.params.posonlyargs ++ fd.params.args).head? = some ar) (har:ar.arg = "self") (hcd:fd.code = .ref c2) (lc2:K.lookup c2=some ⟨o2c,o2d,.fields cs,o2s⟩) (hc4:cs[2]? = some (.str file tf)) (hfi:(P.main.file == file)=true)
  (hns:(P.main.scope.names.lookup ("super" : Str)).isSome=false) (hgl:fd.globals=mainGlobals) (hbl:fd.builtins=builtinsNs) (gs:PySem.W.nsIn K mainGlobals "super" = some none) (lcc:K.lookup cc=some ⟨occ,occd,.cell (some (.ref C)),ocs⟩)
  (m1:PySem.W.mroIn K C (.ref C)=some true) (m2:PySem.W.mroIn K C (.type "ValueError")=some true) (op:PySem.W.nsIn K cStatics "thirdparty.any" = some none)
  (hline:(p2.endLine == p3.line)=true)
  (hin:∀L,interactive (callEnv fd L fI)=false) (hsw:∀L,swapsWith (.Name Xn p7) (some (.Attribute (.Name "self" p5) Xn p6)) p8.line (callEnv fd L fI)=pure false)
  (hs:PySem.W.findIn K (.ref C) "__setattr__" = some (some (.builtin "object.__setattr__"))) (hp:overV K C=true) (ht:PySem.W.takerIn K C Xn=some none) (hh:PySem.W.hasDictIn K C=true)
  (hdb:(Xn == ("__debug__" : Str))=false) (hml:msg.length≤100):InitK P w K mg C fI Xn:=by
 have obj:∀{h:Heap},K.In h→h.Ns N (h.nsMap N):=fun X=>.of_isNs (PySem.W.isNs_of_in X no)
 refine ⟨fun {h} X=>⟨bm,N,nm,qn,bs,hd,sn,sub,ab,col,dd,k0,k1,k2,k3,k5,h.nsMap N,X _ _ lC,obj X,ns_some X (obj X) ni,PySem.W.tail_of_in X tl⟩,⟨_,lf,rfl⟩,?_⟩
 intro A s e v u y R vs sl v0 X hdp lim gN ⟨mb,bN,bb⟩ he hv0 lk r sh hy hq
 obtain ⟨cdx,hcd',hmx⟩:∃cdx,PySem.W.clsIn K C=some cdx∧cdx.mro = .ref C :: bm:=⟨_,by unfold PySem.W.clsIn; rw [lC],rfl⟩
 have heC:e≠C:=fun z=>by rw [z,lC] at lk; cases lk
 have heq:∀L,eval (.Call (.Attribute (.Call (.Name "super" p0) [] [] p1) "__init__" p2) [.JoinedStr [.Constant (.str msg) k pa,.FormattedValue (.Name Xn pb) (-1) none pc] pd] [] p3) (callEnv fd L fI)=(do
   let ov ← attributeBase (.Call (.Name "super" p0) [] [] p1) "__init__" (callEnv fd L fI) (eval (.Call (.Name "super" p0) [] [] p1) (callEnv fd L fI))
   standAt p2.atName
   let x ← holding [ov] (getMethod ov "__init__" (do return (← importBound (.Call (.Name "super" p0) [] [] p1) (callEnv fd L fI)).getD true))
   match x with
   | (f,first)=>callWith p3 f first (backTo p3 (starEach [.JoinedStr [.Constant (.str msg) k pa,.FormattedValue (.Name Xn pb) (-1) none pc] pd] (callEnv fd L fI))) []):=fun L=>by
  rw [arm_eval_Call]
  unfold methodCall calleeOf methodCallPos
  rw [hline]
  rfl
 refine init_run (cd:=cdx) (oC:=⟨.none,none,.plain,#[]⟩) (C:=C) (cc:=cc) (c2:=c2) (Xn:=Xn) (u:=u) X hdp (X _ _ lf) rfl lim (PySem.W.codeRec_of X cq) hb (hbi s e u) hXs hce h1 hX2 h3 h4 g1 g2 g3 hcl hpa har hcd (X _ _ lc2) rfl hc4 hfi hns (hgl ▸ gN) (PySem.W.ns_none_of X gN gs) (hbl ▸ bN) ((bb "super" (by decide)).trans super_boot)
  (fun h' k=>⟨_,k _ _ (X _ _ lcc),rfl⟩) (X _ _ lC) (PySem.W.tail_of_in X tl) he hv0 heC (fun h Y=>looks_isType Y (by rw [hcd']; rfl)) (fun h Y=>PySem.W.looks_mroIn Y m1) (fun h Y=>PySem.W.looks_mroIn Y m2) (fun h Y=>PySem.W.looks_opaque Y op) (fun h Y=>hmx ▸ (PySem.W.looks_clsIn Y hcd').andThen .now) (fun L=>rfl) _ heq hin hsw hs hp ht hh hdb
  (fun o z=>by rw [lk] at z; cases z) (fun h vs' z=>⟨z,rfl,rfl,trivial⟩) hq ?_
 intro L A1 s1 E1 Q1 hn hq1
 have len:∀z:Str,z.length≤800→z.length≤sizeLine:=fun z h=>Nat.le_trans h (by rw [sizeLine_eq]; decide)
 refine fstr_eval (v:=v) (u:=u) (y:=y) g3 hX2 hdb hn (by simp [List.lookup]) r sh ?_ ?_ hq1
 ·exact len _ (by rw [strLen]; show 0 + msg.length≤800; omega)
 ·exact len _ (by rw [strLen,strLen]; show 0 + msg.length + y.length≤800; omega)
structure FunG (K:PySem.W.Frag) (x qual:Str) (st:Stmt) (dV:Value) (f:Addr) (fd:FuncData):Prop where
 ex:∃(oc:Value) (od:Option Addr) (kV doc pm:Value) (an:Option Addr) (cdv ct:Value) (osl:Array (Option Value)),
  fd=PySem.W.fnOf x qual (defArgs st) (defBody st) (defScope st) dV kV doc pm an cdv ct∧K.lookup f=some ⟨oc,od,.func fd,osl⟩∧PySem.W.codeIn K cdv qual=true
 kp:PySem.W.keepIn K (.ref f)=true
section
variable {P:Program} {w:World} {K:PySem.W.Frag} {mg:Str→Option Value} {base:Heap} {x qual:Str} {st:Stmt} {dV:Value} {f:Addr} {fd:FuncData} {N ps:List Str} {k:Nat} {sp:Sp}
theorem FunG.okE (F:FunG K x qual st dV f fd) (S:FnScope N ps (defScope st)) (len:∀vs H Q E,sp vs H Q E→vs.length=ps.length)
  (hbody:∀(cdv:Value) (A:Around) (outer:List Env) (s:Shared) (H:Hp) (vs:List V) (Q:VK) (E:XK),Room k (A.deeper (envOfC qual (defScope st) s.heap.objs.size f cdv))→sp vs H Q E→
   ∃t,PSs (cxOf (CXE P w) P w K mg base N qual (defScope st) f cdv A outer s H E) (defBody st) t∧t {nx:=fun _ H'=>Q .non H',rt:=Q} (start N vs) H):FnOk P w K mg base (CXE P w) (k + 1) f fd ps sp:=by
 obtain ⟨oc,od,kV,doc,pm,an,cdv,ct,osl,rfl,lk,hcd⟩:=F.ex
 exact fn_of lk hcd S len fun A outer s H vs Q E hr hsp=>hbody cdv A outer s H vs Q E hr hsp
theorem FunG.okN (F:FunG K x qual st dV f fd) (S:FnScope N ps (defScope st)) (len:∀vs H Q E,sp vs H Q E→vs.length=ps.length)
  (hbody:∀(cdv:Value) (A:Around) (outer:List Env) (s:Shared) (H:Hp) (vs:List V) (Q:VK) (E:XK),Room k (A.deeper (envOfC qual (defScope st) s.heap.objs.size f cdv))→sp vs H Q E→
   ∃t,PSs (cxOf (CXE P w) P w K mg base N qual (defScope st) f cdv A outer s H E).nox (defBody st) t∧t {nx:=fun _ H'=>Q .non H',rt:=Q} (start N vs) H):FnOk P w K mg base (CXE P w) (k + 1) f fd ps sp:=
 F.okE S len fun cdv A outer s H vs Q E hr hsp=>by
  obtain ⟨t,h,q⟩:=hbody cdv A outer s H vs Q E hr hsp
  exact ⟨t,h.nox,q⟩
theorem FunG.binds (F:FunG K x qual st .none f fd)
  (h:∀(kV doc pm:Value) (an:Option Addr) (cdv ct:Value) (us:List Value),us.length=ps.length→bindArgs (PySem.W.fnOf x qual (defArgs st) (defBody st) (defScope st) .none kV doc pm an cdv ct) ⟨us,[]⟩=pure (ps.zip us)):Binds K fd ps []:=by
 obtain ⟨oc,od,kV,doc,pm,an,cdv,ct,osl,rfl,lk,hcd⟩:=F.ex
 exact .all (h kV doc pm an cdv ct)
theorem fung_mk {oc:Value} {od an:Option Addr} {osl:Array (Option Value)} {kV doc pm cdv ct:Value} (l:K.lookup f=some ⟨oc,od,.func (PySem.W.fnOf x qual (defArgs st) (defBody st) (defScope st) dV kV doc pm an cdv ct),osl⟩)
  (c:PySem.W.codeIn K cdv qual=true) (k:PySem.W.keepIn K (.ref f)=true):FunG K x qual st dV f (PySem.W.fnOf x qual (defArgs st) (defBody st) (defScope st) dV kV doc pm an cdv ct):=⟨⟨oc,od,kV,doc,pm,an,cdv,ct,osl,rfl,l,c⟩,k⟩
end
inductive Th (H:Hp):V→Prop where
 | non:Th H .non
 | bl (b:Bool):Th H (.bl b)
 | int (i:Int):Th H (.int i)
 | str (x:Str):Th H (.str x)
 | lst {a:Addr} {xs:List V} (h:H a=some (.lst xs)):Th H (.ref a)
 | tup {a:Addr} {xs:List V} (h:H a=some (.tup xs)):Th H (.ref a)
 | dK {a:Addr} {xs:List (Key × V)} (h:H a=some (.dK xs)):Th H (.ref a)
def isI:V→Bool
 | .int _=>true
 | .bl _=>true
 | _=>false
def isB:V→Bool
 | .bl _=>true
 | _=>false
def isW:V→Bool
 | .int _=>true
 | _=>false
theorem isW_eq (x:V):(if isI x=true then !isB x else false)=isW x:=by cases x <;> rfl
theorem ki1 {K:PySem.W.Frag}:PySem.W.kitOne K (.type "int") (.type "int")=some true:=by kernel_rfl
theorem ki2 {K:PySem.W.Frag}:PySem.W.kitOne K (.type "bool") (.type "int")=some true:=by kernel_rfl
theorem ki3 {K:PySem.W.Frag}:PySem.W.kitOne K (.type "NoneType") (.type "int")=some false:=by kernel_rfl
theorem ki4 {K:PySem.W.Frag}:PySem.W.kitOne K (.type "str") (.type "int")=some false:=by kernel_rfl
theorem ki5 {K:PySem.W.Frag}:PySem.W.kitOne K (.type "list") (.type "int")=some false:=by kernel_rfl
theorem ki6 {K:PySem.W.Frag}:PySem.W.kitOne K (.type "tuple") (.type "int")=some false:=by kernel_rfl
theorem ki7 {K:PySem.W.Frag}:PySem.W.kitOne K (.type "dict") (.type "int")=some false:=by kernel_rfl
theorem kb1 {K:PySem.W.Frag}:PySem.W.kitOne K (.type "int") (.type "bool")=some false:=by kernel_rfl
theorem kb2 {K:PySem.W.Frag}:PySem.W.kitOne K (.type "bool") (.type "bool")=some true:=by kernel_rfl
theorem kt1 {K:PySem.W.Frag}:PySem.W.kitOne K (.type "tuple") (.type "tuple")=some true:=by kernel_rfl
theorem boot_int:bootBuiltins "int" = some (.type "int"):=by decide +kernel
theorem boot_bool:bootBuiltins "bool" = some (.type "bool"):=by decide +kernel
theorem boot_tuple:bootBuiltins "tuple" = some (.type "tuple"):=by decide +kernel
theorem Th.ty {K:PySem.W.Frag} {H:Hp} {x:V} (h:Th H x):∃t,TyX K H x t∧PySem.W.kitOne K t (.type "int")=some (isI x)∧(isI x=true→PySem.W.kitOne K t (.type "bool")=some (isB x)):=by
 cases h with
 | non=>exact ⟨_,.of .non,ki3,fun z=>nomatch z⟩
 | bl b=>exact ⟨_,.of (.bl b),ki2,fun _=>kb2⟩
 | int i=>exact ⟨_,.of (.int i),ki1,fun _=>kb1⟩
 | str x=>exact ⟨_,.of (.str x),ki4,fun z=>nomatch z⟩
 | lst h=>exact ⟨_,.of (.lst h),ki5,fun z=>nomatch z⟩
 | tup h=>exact ⟨_,.of (.tup h),ki6,fun z=>nomatch z⟩
 | dK h=>exact ⟨_,.of (.dK h),ki7,fun z=>nomatch z⟩
end L2
namespace G1
open PySem L2
def top (i:Nat):Stmt:=PySem.Challenge.pw_dearsigns_k05_what_is_no_tongue.main.body.getD i (.Pass ⟨0,0,0,0⟩)
abbrev sWhole:Stmt:=top 20
abbrev sWithin:Stmt:=top 21
abbrev sIsF:Stmt:=top 22
abbrev sName:Stmt:=top 24
abbrev sGcd:Stmt:=top 26
abbrev sLetter:Stmt:=top 25
abbrev sLook:Stmt:=top 34
abbrev sSigns:Stmt:=top 35
abbrev sRow:Stmt:=top 36
abbrev sAbove:Stmt:=top 23
abbrev sUnlike:Stmt:=top 37
abbrev sSignsOf:Stmt:=top 38
abbrev sCell:Stmt:=top 60
abbrev sSource:Stmt:=top 61
abbrev sDraw:Stmt:=top 62
abbrev sLowest:Stmt:=top 63
abbrev sPrice:Stmt:=top 64
abbrev sLSigns:Stmt:=top 65
abbrev sTongue:Stmt:=top 66
abbrev sCopy:Stmt:=top 67
abbrev sMayStand:Stmt:=top 41
abbrev sIsWord:Stmt:=top 42
abbrev sMayCome:Stmt:=top 43
abbrev sWay:Stmt:=top 44
abbrev sPriceOf:Stmt:=top 45
abbrev sWords:Stmt:=top 46
abbrev sWCounts:Stmt:=top 47
abbrev sTCounts:Stmt:=top 48
abbrev sStranger:Stmt:=top 68
abbrev sMoreS:Stmt:=top 69
abbrev sBadS:Stmt:=top 70
abbrev sBadF:Stmt:=top 71
abbrev sBadP:Stmt:=top 72
abbrev sSpoilt:Stmt:=top 73
abbrev sIsRef:Stmt:=top 74
abbrev sLCall:Stmt:=top 75
abbrev sPart:Stmt:=top 76
abbrev sLaw:Stmt:=top 77
structure Bl (mg:Str→Option Value):Prop where
 isi:mg "isinstance" = none
 int:mg "int" = none
 bool:mg "bool" = none
 tuple:mg "tuple" = none
 abs:mg "abs" = none
 len:mg "len" = none
 enum:mg "enumerate" = none
 str:mg "str" = none
 range:mg "range" = none
 max:mg "max" = none
 all:mg "all" = none
 set:mg "set" = none
 list:mg "list" = none
 min:mg "min" = none
 sum:mg "sum" = none
 dict:mg "dict" = none
 any:mg "any" = none
 reversed:mg "reversed" = none
 sorted:mg "sorted" = none
section
variable {P:Program} {w:World} {K:PySem.W.Frag} {mg:Str→Option Value} {base:Heap}
def spWhole:Sp:=fun vs H Q _=>∃x,vs=[x]∧Th H x∧Q (.bl (isW x)) H
theorem scW:FnScope ["thing"] ["thing"] (defScope sWhole):=⟨rfl,rfl,rfl,by decide +kernel,rfl,by decide +kernel,by decide +kernel⟩
theorem ok_whole {f:Addr} {fd:FuncData} (F:FunG K "is_whole" "is_whole" sWhole .none f fd) (B:Bl mg):FnOk P w K mg base (CXE P w) 1 f fd ["thing"] spWhole:=by
 refine F.okN scW (fun vs H Q E h=>?_) (fun cdv A outer s H vs Q E hr h=>?_)
 ·obtain ⟨x,rfl,_⟩:=h
  rfl
 ·obtain ⟨x,rfl,hx,q⟩:=h
  obtain ⟨t,ty,e1,e2⟩:=hx.ty (K:=K)
  refine ⟨_,pss_one (ps_ret (pe_and (pe_callB call_isi (by rfl) B.isi boot_isi (pa_cons (pv 0) (pa_cons (pe_bltn (by rfl) B.int boot_int (v:=.ty "int") rfl) pa_nil)))
   (pe_one (pe_not (pe_callB call_isi (by rfl) B.isi boot_isi (pa_cons (pv 0) (pa_cons (pe_bltn (by rfl) B.bool boot_bool (v:=.ty "bool") rfl) pa_nil))))))),?_⟩
  refine ⟨x,rfl,x,_,t,isI x,rfl,ty,.inl ⟨_,rfl,e1⟩,_,rfl,?_⟩
  rw [← isW_eq x] at q
  by_cases hi:isI x=true
  ·rw [if_pos hi] at q ⊢
   exact ⟨x,rfl,x,_,t,isB x,rfl,ty,.inl ⟨_,rfl,e2 hi⟩,_,rfl,q⟩
  ·rw [if_neg hi] at q ⊢
   exact q
end
end G1
namespace GM
theorem gcd_step (m n:Nat):Nat.gcd n (m % n)=Nat.gcd m n:=by
 rw [Nat.gcd_comm n,Nat.gcd_comm m,Nat.gcd_rec n m]
theorem abs_nat (i:Int):(if i < 0 then -i else i)=(i.natAbs:Int):=by split <;> omega
def gd (a b:Int):Int:=((Nat.gcd a.natAbs b.natAbs:Nat):Int)
theorem gd_pos {a b:Int} (h:b≠0):0 < gd a b:=by
 unfold gd
 have:0 < Nat.gcd a.natAbs b.natAbs:=Nat.gcd_pos_of_pos_right _ (by omega)
 omega
theorem gd_dvd1 (a b:Int):gd a b ∣ a:=by
 unfold gd
 have h:(Nat.gcd a.natAbs b.natAbs) ∣ a.natAbs:=Nat.gcd_dvd_left _ _
 exact Int.dvd_natAbs.mp (Int.natCast_dvd_natCast.mpr h)
theorem gd_dvd2 (a b:Int):gd a b ∣ b:=by
 unfold gd
 have h:(Nat.gcd a.natAbs b.natAbs) ∣ b.natAbs:=Nat.gcd_dvd_right _ _
 exact Int.dvd_natAbs.mp (Int.natCast_dvd_natCast.mpr h)
theorem gd_le {a b:Int} (h:b≠0):(gd a b).natAbs≤b.natAbs:=by
 unfold gd
 have:Nat.gcd a.natAbs b.natAbs≤b.natAbs:=Nat.le_of_dvd (by omega) (Nat.gcd_dvd_right _ _)
 omega
theorem parted {a b g:Int} (hb:b≠0) (hg:g=gd a b∨g = -gd a b) (hs:0 < b↔0 < g) :
  ∃c d,a.fdiv g=c∧b.fdiv g=d∧a=g * c∧b=g * d∧0 < d∧Nat.gcd c.natAbs d.natAbs=1∧c.natAbs≤a.natAbs∧d.natAbs≤b.natAbs:=by
 have h0:=gd_pos (a:=a) hb
 have g0:g≠0:=by omega
 have d1:g ∣ a:=by
  rcases hg with e | e
  ·rw [e]; exact gd_dvd1 a b
  ·rw [e]; exact (Int.neg_dvd).mpr (gd_dvd1 a b)
 have d2:g ∣ b:=by
  rcases hg with e | e
  ·rw [e]; exact gd_dvd2 a b
  ·rw [e]; exact (Int.neg_dvd).mpr (gd_dvd2 a b)
 obtain ⟨c,rfl⟩:=d1
 obtain ⟨d,rfl⟩:=d2
 have na:g.natAbs=Nat.gcd (g * c).natAbs (g * d).natAbs:=by
  have e:gd (g * c) (g * d)=((Nat.gcd (g * c).natAbs (g * d).natAbs:Nat):Int):=rfl
  rcases hg with z | z <;> omega
 refine ⟨c,d,Int.mul_fdiv_cancel_left _ g0,Int.mul_fdiv_cancel_left _ g0,rfl,rfl,?_,?_,?_,?_⟩
 ·by_cases hp:0 < g
  ·have z:=hs.mpr hp
   rw [Int.mul_comm] at z
   exact Int.pos_of_mul_pos_left z hp
  ·have gn:g < 0:=by omega
   have bn:¬0 < g * d:=fun z=>hp (hs.mp z)
   have bn2:g * d < 0:=by omega
   rcases Int.lt_trichotomy d 0 with z | z | z
   ·have:=Int.mul_pos_of_neg_of_neg gn z
    omega
   ·rw [z] at hb; simp at hb
   ·exact z
 ·rw [Int.natAbs_mul,Int.natAbs_mul,Nat.gcd_mul_left] at na
  have gp:0 < g.natAbs:=by omega
  have:g.natAbs * 1=g.natAbs * Nat.gcd c.natAbs d.natAbs:=by rw [Nat.mul_one]; exact na
  exact (Nat.eq_of_mul_eq_mul_left gp this).symm
 ·rw [Int.natAbs_mul]; exact Nat.le_mul_of_pos_left _ (by omega)
 ·rw [Int.natAbs_mul]; exact Nat.le_mul_of_pos_left _ (by omega)
end GM
theorem boot_abs:PySem.bootBuiltins "abs" = some (.builtin "abs"):=by decide +kernel
namespace G1
open PySem L2 GM
section
variable {P:Program} {w:World} {K:PySem.W.Frag} {mg:Str→Option Value} {base:Heap}
def spGcd:Sp:=fun vs H Q _=>∃a b:Int,vs=[.int a,.int b]∧Q (.int (gd a b)) H
theorem scG:FnScope ["one","other"] ["one","other"] (defScope sGcd):=⟨rfl,rfl,rfl,by decide +kernel,rfl,by decide +kernel,by decide +kernel⟩
theorem ok_gcd {f:Addr} {fd:FuncData} (F:FunG K "common_divisor" "common_divisor" sGcd .none f fd) (B:Bl mg):FnOk P w K mg base (CXE P w) 1 f fd ["one","other"] spGcd:=by
 refine F.okN scG (fun vs H Q E h=>?_) (fun cdv A outer s H vs Q E hr h=>?_)
 ·obtain ⟨a,b,rfl,_⟩:=h
  rfl
 ·obtain ⟨a,b,rfl,q⟩:=h
  refine ⟨_,pss_cons (ps_set (i:=0) scG.nd rfl (Or.inl rfl) (pe_callB call_abs (by rfl) B.abs boot_abs (pa_cons (pv 0) pa_nil)))
   (pss_cons (ps_set (i:=1) scG.nd rfl (Or.inl rfl) (pe_callB call_abs (by rfl) B.abs boot_abs (pa_cons (pv 1) pa_nil)))
   (pss_cons (ps_while PassesOwn.never (pt_cmpR op_gt (pv 1) pe_int (nomark _))
    (pss_one (ps_par (i:=0) (j:=1) rfl scG.nd rfl rfl (by decide) rfl rfl (pa_cons (pv 1) (pa_cons (pe_op op_mod (pv 0) (pv 1)) pa_nil)) rfl)))
   (pss_one (ps_ret (pv 0))))),?_⟩
  refine ⟨_,rfl,a,rfl,_,rfl,b,rfl,?_⟩
  refine while_by (fun σ H'=>H'=H∧∃m n:Nat,σ=[some (.int m),some (.int n)]∧Nat.gcd m n=Nat.gcd a.natAbs b.natAbs) (fun σ _=>match σ with | [_,some (.int n)]=>n.toNat | _=>0)
   ⟨rfl,a.natAbs,b.natAbs,by simp only [abs_nat]; rfl,rfl⟩ ?_ ?_
  ·rintro σ H' ⟨rfl,m,n,rfl,hg⟩
   refine ⟨_,rfl,_,_,rfl,rfl,_,rfl,?_⟩
   refine ite2 (fun hn=>?_) (fun hn=>?_)
   ·have hn':(0:Int) < n:=of_decide_eq_true hn
    refine ⟨_,rfl,_,rfl,_,rfl,_,_,rfl,rfl,hn',_,_,rfl,⟨rfl,n,m % n,?_,?_⟩,?_⟩
    ·show [some (V.int n),some (V.int ((m:Int) % n))]=_
     rw [← Int.natCast_emod]
    ·rw [gcd_step]; exact hg
    ·show ((m:Int) % n).toNat < (n:Int).toNat
     have:=Int.emod_lt_of_pos (m:Int) hn'
     have:=Int.emod_nonneg (m:Int) (show (n:Int)≠0 by omega)
     omega
   ·have hn':¬(0:Int) < n:=fun z=>hn (decide_eq_true z)
    refine ⟨_,rfl,?_⟩
    have n0:n=0:=by omega
    rw [n0,Nat.gcd_zero_right] at hg
    rw [hg]
    exact q
  ·rintro σ H' Q1 Q2 h ⟨v,e,i,j,e1,e2,x,e3,z⟩
   exact ⟨v,e,i,j,e1,e2,x,e3,h _ _ z⟩
end
structure FracOf (a b c d:Int):Prop where
 g:∃g:Int,g≠0∧a=g * c∧b=g * d
 pos:0 < d
 low:Nat.gcd c.natAbs d.natAbs=1
 top:c.natAbs≤a.natAbs
 bot:d.natAbs≤b.natAbs
section
variable {P:Program} {w:World} {K:PySem.W.Frag} {mg:Str→Option Value} {base:Heap}
def spLow:Sp:=fun vs H Q _=>∃a b:Int,vs=[.int a,.int b]∧0 < b∧b.natAbs < big∧∀p c d,H p=none→FracOf a b c d→(Nat.gcd a.natAbs b.natAbs=1→c=a∧d=b)→Q (.ref p) (upd H p (.tup [.int c,.int d]))
theorem scLo:FnScope ["_law_top","_law_bottom","_law_one","_law_other"] ["_law_top","_law_bottom"] (defScope sLowest):=⟨rfl,rfl,rfl,by decide +kernel,rfl,by decide +kernel,by decide +kernel⟩
theorem ok_low {f:Addr} {fd:FuncData} (F:FunG K "_law_lowest" "_law_lowest" sLowest .none f fd) (B:Bl mg):FnOk P w K mg base (CXE P w) 1 f fd ["_law_top","_law_bottom"] spLow:=by
 refine F.okN scLo (fun vs H Q E h=>?_) (fun cdv A outer s H vs Q E hr h=>?_)
 ·obtain ⟨a,b,rfl,_⟩:=h
  rfl
 ·obtain ⟨a,b,rfl,hb,hbb,q⟩:=h
  refine ⟨_,pss_cons (ps_set (i:=2) scLo.nd rfl (Or.inl rfl) (pv 1))
   (pss_cons (ps_set (i:=3) scLo.nd rfl (Or.inl rfl) (pe_callB call_abs (by rfl) B.abs boot_abs (pa_cons (pv 0) pa_nil)))
   (pss_cons (ps_while PassesOwn.never (pt_cmpR op_gt (pv 3) pe_int (nomark _))
    (pss_one (ps_par (i:=2) (j:=3) rfl scLo.nd rfl rfl (by decide) rfl rfl (pa_cons (pv 3) (pa_cons (pe_op op_mod (pv 2) (pv 3)) pa_nil)) rfl)))
   (pss_one (ps_ret (pe_tup (pa_cons (pe_op op_fdivB (pv 0) (pv 2)) (pa_cons (pe_op op_fdivB (pv 1) (pv 2)) pa_nil))))))),?_⟩
  refine ⟨_,rfl,_,rfl,a,rfl,?_⟩
  refine while_by (fun σ H'=>H'=H∧∃m n:Nat,σ=[some (.int a),some (.int b),some (.int m),some (.int n)]∧Nat.gcd m n=Nat.gcd b.natAbs a.natAbs) (fun σ _=>match σ with | [_,_,_,some (.int n)]=>n.toNat | _=>0)
   ⟨rfl,b.natAbs,a.natAbs,?_,rfl⟩ ?_ ?_
  ·rw [abs_nat,show ((b.natAbs:Nat):Int)=b by omega]; rfl
  ·rintro σ H' ⟨rfl,m,n,rfl,hg⟩
   refine ⟨_,rfl,_,_,rfl,rfl,_,rfl,?_⟩
   refine ite2 (fun hn=>?_) (fun hn=>?_)
   ·have hn':(0:Int) < n:=of_decide_eq_true hn
    refine ⟨_,rfl,_,rfl,_,rfl,_,_,rfl,rfl,hn',_,_,rfl,⟨rfl,n,m % n,?_,?_⟩,?_⟩
    ·show [some (V.int a),some (V.int b),some (V.int n),some (V.int ((m:Int) % n))]=_
     rw [← Int.natCast_emod]
    ·rw [gcd_step]; exact hg
    ·show ((m:Int) % n).toNat < (n:Int).toNat
     have:=Int.emod_lt_of_pos (m:Int) hn'
     have:=Int.emod_nonneg (m:Int) (show (n:Int)≠0 by omega)
     omega
   ·have hn':¬(0:Int) < n:=fun z=>hn (decide_eq_true z)
    have n0:n=0:=by omega
    rw [n0,Nat.gcd_zero_right,Nat.gcd_comm] at hg
    have mg:(m:Int)=gd a b:=by unfold gd; rw [hg]
    have nb:b≠0:=by omega
    have gp:=gd_pos (a:=a) nb
    have gl:=gd_le (a:=a) nb
    obtain ⟨c,d,e1,e2,e3,e4,dp,gg,la,lb⟩:=parted (a:=a) (b:=b) (g:=(m:Int)) nb (.inl mg) (by omega)
    have g0:(m:Int)≠0:=by omega
    have gb:(m:Int).natAbs < big:=Nat.lt_of_le_of_lt (by omega) hbb
    refine ⟨_,rfl,_,rfl,_,_,rfl,rfl,⟨g0,gb⟩,_,rfl,_,rfl,_,_,rfl,rfl,⟨g0,gb⟩,by show 2≤sizeLine; decide,fun p hp=>?_⟩
    show Q (V.ref p) (upd H' p (HO.tup [V.int (a.fdiv m),V.int (b.fdiv m)]))
    rw [e1,e2]
    refine q p c d hp ⟨⟨m,g0,e3,e4⟩,dp,gg,la,lb⟩ fun one=>?_
    rw [one] at hg
    rw [hg] at e3 e4
    constructor
    ·omega
    ·omega
  ·rintro σ H' Q1 Q2 h ⟨v,e,i,j,e1,e2,x,e3,z⟩
   exact ⟨v,e,i,j,e1,e2,x,e3,h _ _ z⟩
end
section
variable {P:Program} {w:World} {K:PySem.W.Frag} {mg:Str→Option Value} {base:Heap} {c:List Addr}
theorem same_upd {H:Hp} {p:Addr} {o:HO} (h:H p=none):Same H (upd H p o):=fun b u e=>by rw [upd_ne (ne_of_none e h)]; exact e
structure Src (H:Hp) (p:Addr):Prop where
 ex:∃n s:Int,H p=some (.lst [.int n,.int s])∧0≤n∧0≤s∧s < 2147483647
def spSource:Sp:=fun vs H Q _=>∃x k:Int,vs=[.int x,.int k]∧0≤k∧k≤1000∧∀p H',H p=none→Src H' p→(∀b,b≠p→H' b=H b)→Q (.ref p) H'
theorem scS:FnScope ["_law_cell_here","_law_k","_law_number","_law_seed"] ["_law_cell_here","_law_k"] (defScope sSource):=⟨rfl,rfl,rfl,by decide +kernel,rfl,by decide +kernel,by decide +kernel⟩
theorem ok_source {f:Addr} {fd:FuncData} (F:FunG K "_law_source" "_law_source" sSource .none f fd) (B:Bl mg):FnOk P w K mg base (CXE P w) 1 f fd ["_law_cell_here","_law_k"] spSource:=by
 refine F.okN scS (fun vs H Q E h=>?_) (fun cdv A outer s H vs Q E hr h=>?_)
 ·obtain ⟨x,k,rfl,_⟩:=h
  rfl
 ·obtain ⟨x,k,rfl,k0,k1,q⟩:=h
  refine ⟨_,pss_cons (ps_set (i:=2) scS.nd rfl (Or.inl rfl) (pe_callB call_abs (by rfl) B.abs boot_abs (pa_cons (pv 0) pa_nil)))
   (pss_cons (ps_set (i:=3) scS.nd rfl (Or.inl rfl) (pe_op op_mod (pe_op op_mul (pe_op op_add (pe_op op_add (pe_op op_mod (pv 2) pe_int) (pe_op op_mul pe_int (pv 1))) pe_int) pe_int) pe_int))
   (pss_one (ps_ret (pe_lst (pa_cons (pe_op op_mul (pv 2) (pe_callTy call_int1 (by rfl) B.int boot_int (pa_cons (pe_cmpR op_ge (pv 2) (pe_op op_pow pe_int pe_int) (nomark _)) pa_nil))) (pa_cons (pv 3) pa_nil)))))),?_⟩
  refine ⟨_,rfl,x,rfl,?_⟩
  rw [abs_nat]
  have m0:(0:Int)≤((x.natAbs:Nat):Int) % 1000003:=Int.emod_nonneg _ (by decide)
  have m1:((x.natAbs:Nat):Int) % 1000003 < 1000003:=Int.emod_lt_of_pos _ (by decide)
  refine ⟨_,rfl,_,_,rfl,rfl,(by show (0:Int) < 1000003; decide),_,rfl,_,_,rfl,rfl,.inl ⟨by decide,by decide⟩,_,_,rfl,rfl,_,_,rfl,rfl,_,_,rfl,rfl,.inr ⟨by decide,by decide⟩,_,_,rfl,rfl,(by show (0:Int) < 2147483647; decide),?_⟩
  refine ⟨_,rfl,_,rfl,_,_,rfl,rfl,⟨by decide,by decide,by decide⟩,_,_,rfl,rfl,.inr ⟨_,rfl,_,_,rfl,rfl,.inr (by split <;> constructor <;> decide),_,rfl,by show 2≤sizeLine; decide,fun p hp=>?_⟩⟩
  refine q p _ hp ⟨_,_,upd_same,?_,Int.emod_nonneg _ (by decide),Int.emod_lt_of_pos _ (by decide)⟩ fun b hb=>upd_ne hb
  split
  ·omega
  ·omega
def spDraw:Sp:=fun vs H Q _=>∃(p:Addr) (m:Int),vs=[.ref p,.int m]∧Src H p∧0 < m∧m.natAbs < big∧∀d H',0≤d→d < m→Src H' p→(∀b,b≠p→H' b=H b)→Q (.int d) H'
theorem scD:FnScope ["_law_source_here","_law_many","_law_digit"] ["_law_source_here","_law_many"] (defScope sDraw):=⟨rfl,rfl,rfl,by decide +kernel,rfl,by decide +kernel,by decide +kernel⟩
theorem ok_draw {f:Addr} {fd:FuncData} (F:FunG K "_law_draw" "_law_draw" sDraw .none f fd):FnOk P w K mg base (CXE P w) 1 f fd ["_law_source_here","_law_many"] spDraw:=by
 refine F.okN scD (fun vs H Q E h=>?_) (fun cdv A outer s H vs Q E hr h=>?_)
 ·obtain ⟨p,m,rfl,_⟩:=h
  rfl
 ·obtain ⟨p,m,rfl,⟨n,sd,hp,n0,s0,s1⟩,m0,mb,q⟩:=h
  refine ⟨_,pss_cons (ps_if (pt_cmpR op_gt (pe_ix ix_list (pv 0) pe_int (fun _ _=>rfl)) pe_int (nomark _))
    (pss_cons (ps_set (i:=2) scD.nd rfl (Or.inl rfl) (pe_op op_mod (pe_ix ix_list (pv 0) pe_int (fun _ _=>rfl)) (pv 1)))
    (pss_cons (ps_asg (pe_op op_fdivP (pe_ix ix_list (pv 0) pe_int (fun _ _=>rfl)) (pv 1)) (pg_sub (pv 0) pe_int set_list))
    (pss_one (ps_ret (pv 2))))) pss_nil)
   (pss_cons (ps_asg (pe_op op_mod (pe_op op_add (pe_op op_mul (pe_ix ix_list (pv 0) pe_int (fun _ _=>rfl)) pe_int) pe_int) pe_int) (pg_sub (pv 0) pe_int set_list))
   (pss_one (ps_ret (pe_op op_mod (pe_op op_fdiv (pe_op op_mod (pe_op op_mul (pe_ix ix_list (pv 0) pe_int (fun _ _=>rfl)) (pe_ix ix_list (pv 0) pe_int (fun _ _=>rfl))) pe_int) pe_int) (pv 1))))),?_⟩
  have st:SqL K H p [.int n,.int sd]:=SqL.of hp
  refine ⟨_,rfl,p,_,_,_,rfl,rfl,st,rfl,_,_,rfl,rfl,_,rfl,?_⟩
  refine ite2 (fun hn=>?_) (fun hn=>?_)
  ·have n1:(0:Int) < n:=of_decide_eq_true hn
   refine ⟨_,rfl,p,_,_,_,rfl,rfl,st,rfl,_,rfl,_,_,rfl,rfl,m0,?_⟩
   refine ⟨_,rfl,p,_,_,_,rfl,rfl,st,rfl,_,rfl,_,_,rfl,rfl,⟨m0,mb⟩,_,rfl,p,_,_,0,rfl,rfl,hp,rfl,?_⟩
   refine ⟨_,rfl,?_⟩
   exact q _ _ (Int.emod_nonneg _ (by omega)) (Int.emod_lt_of_pos _ m0) ⟨_,_,upd_same,Int.ediv_nonneg n0 (by omega),s0,s1⟩ fun b hb=>upd_ne hb
  ·refine ⟨_,rfl,p,_,_,_,rfl,rfl,st,rfl,_,_,rfl,rfl,.inr ⟨by decide,by decide⟩,_,_,rfl,rfl,_,_,rfl,rfl,(by show (0:Int) < 2147483647; decide),_,rfl,p,_,_,1,rfl,rfl,hp,rfl,?_⟩
   have t0:(0:Int)≤(sd * 48271 + 11) % 2147483647:=Int.emod_nonneg _ (by decide)
   have t1:(sd * 48271 + 11) % 2147483647 < 2147483647:=Int.emod_lt_of_pos _ (by decide)
   have st2:SqL K (upd H p (.lst [.int n,.int ((sd * 48271 + 11) % 2147483647)])) p [.int n,.int ((sd * 48271 + 11) % 2147483647)]:=SqL.of upd_same
   refine ⟨_,rfl,p,_,_,_,rfl,rfl,st2,rfl,_,rfl,p,_,_,_,rfl,rfl,st2,rfl,_,_,rfl,rfl,.inl ⟨by show _ < (sd * 48271 + 11) % 2147483647; omega,by show (sd * 48271 + 11) % 2147483647 < _; omega⟩,_,_,rfl,rfl,(by show (0:Int) < 2147483629; decide),_,_,rfl,rfl,⟨by decide,by decide⟩,_,rfl,_,_,rfl,rfl,m0,?_⟩
   exact q _ _ (Int.emod_nonneg _ (by omega)) (Int.emod_lt_of_pos _ m0) ⟨_,_,upd_same,n0,t0,t1⟩ fun b hb=>upd_ne hb
end
end G1
namespace L2
open PySem PySem.Spec PyProof.Rows
def tCut (t:TS):TS:=fun D σ H=>∃J:St→Hp→Prop,t {D with nx:=J} σ H∧∀σ' H',J σ' H'→D.nx σ' H'
theorem ps_cut {X:Cx} {st:Stmt} {t:TS} (h:PS X st t):PS X st (tCut t):=by
 intro pins s σ H D I hw
 obtain ⟨J,h1,h2⟩:=hw
 refine thn (h pins s σ H _ I h1) fun f s1 q=>?_
 cases f with
 | next=>
  obtain ⟨σ',H',I',q⟩:=q
  exact ⟨σ',H',I',h2 σ' H' q⟩
 | ret v=>exact q
 | brk=>exact q
 | cont=>exact q
section
variable {X:Cx} {es:List Expr} {t:TA} {te:TE} {pos:Pos} {l r:List Expr} {k:Nat} {o:Operator} {a b:Expr} {cst:Const} {x:Str} {u:UnaryOp} {kw:List Keyword} {f:Expr}
theorem pac_c (ha:PE X (.Constant cst k pos) te) (hr:PA X es t):PA X (.Constant cst k pos :: es) (tCons te t):=pa_cons ha hr rfl
theorem pac_n (ha:PE X (.Name x pos) te) (hr:PA X es t):PA X (.Name x pos :: es) (tCons te t):=pa_cons ha hr rfl
theorem pac_l (ha:PE X (.List l pos) te) (hr:PA X es t):PA X (.List l pos :: es) (tCons te t):=pa_cons ha hr rfl
theorem pac_t (ha:PE X (.Tuple l k pos) te) (hr:PA X es t):PA X (.Tuple l k pos :: es) (tCons te t):=pa_cons ha hr rfl
theorem pac_d {ks:List (Option Expr)} {vs:List Expr} (ha:PE X (.Dict ks vs pos) te) (hr:PA X es t):PA X (.Dict ks vs pos :: es) (tCons te t):=pa_cons ha hr rfl
theorem pac_b (ha:PE X (.BinOp a o b pos) te) (hr:PA X es t):PA X (.BinOp a o b pos :: es) (tCons te t):=pa_cons ha hr rfl
theorem pac_u (ha:PE X (.UnaryOp u a pos) te) (hr:PA X es t):PA X (.UnaryOp u a pos :: es) (tCons te t):=pa_cons ha hr rfl
theorem pac_f (ha:PE X (.Call f l kw pos) te) (hr:PA X es t):PA X (.Call f l kw pos :: es) (tCons te t):=pa_cons ha hr rfl
theorem pac_s (ha:PE X (.Subscript a b pos) te) (hr:PA X es t):PA X (.Subscript a b pos :: es) (tCons te t):=pa_cons ha hr rfl
end
end L2
namespace G1
open PySem L2 GM
def Ext (p:Addr) (H H':Hp):Prop:=∀b o,b≠p→H b=some o→H' b=some o
theorem Ext.trans {p:Addr} {H H1 H2:Hp} (a:Ext p H H1) (b:Ext p H1 H2):Ext p H H2:=fun c o n h=>b c o n (a c o n h)
theorem Ext.of_eq {p:Addr} {H H':Hp} (h:∀b,b≠p→H' b=H b):Ext p H H':=fun b o n e=>(h b n).trans e
theorem Ext.new {p l:Addr} {H:Hp} {o:HO} (h:H l=none):Ext p H (upd H l o):=fun b u _ e=>by rw [upd_ne (ne_of_none e h)]; exact e
theorem Src.new {H:Hp} {p l:Addr} {o:HO} (s:Src H p) (h:H l=none):Src (upd H l o) p:=by
 obtain ⟨n,d,e,r⟩:=s.ex
 exact ⟨n,d,by rw [upd_ne (ne_of_none e h)]; exact e,r⟩
theorem Src.ne {H:Hp} {p l:Addr} (s:Src H p) (h:H l=none):l≠p:=fun z=>by
 obtain ⟨n,d,e,_⟩:=s.ex
 rw [← z,h] at e; cases e
end G1
namespace L2
open PySem PySem.Spec PyProof.Rows
structure SPE (X:Cx) (e:Expr) (t:TE):Prop where
 out:PE X e t
structure SPT (X:Cx) (e:Expr) (t:TT):Prop where
 out:PT X e t
structure SPW (X:Cx) (e:Expr) (t:TT):Prop where
 out:PW X e t
structure SPA (X:Cx) (es:List Expr) (t:TA):Prop where
 out:PA X es t
structure SPS (X:Cx) (st:Stmt) (t:TS):Prop where
 out:PS X st t
structure SPSs (X:Cx) (st:List Stmt) (t:TS):Prop where
 out:PSs X st t
structure SPG (X:Cx) (e:Expr) (t:TG):Prop where
 out:PG X e t
structure SPGs (X:Cx) (es:List Expr) (t:TGs):Prop where
 out:PGs X es t
structure SPI (X:Cx) (tg e:Expr) (t:TI):Prop where
 out:PI X tg e t
structure SPEX (X:Cx) (e:Expr) (t:TEX):Prop where
 out:PEX X e t
structure SPSX (X:Cx) (st:List Stmt) (t:TSX):Prop where
 out:PSX X st t
structure SPC (X:Cx) (op:CmpOp) (a b:Expr) (t:TE):Prop where
 out:PC X op a b t
structure SPO (X:Cx) (e:Option Expr) (t:TO):Prop where
 out:PO X e t
theorem SPW.pt {X:Cx} {e:Expr} {t:TT} (h:SPW X e t):SPT X e t:=⟨h.out.pt⟩
section
variable {X:Cx}
theorem zpv (i:Nat) {x:Str} {pos:Pos} (hN:X.N[i]? = some x:=by rfl) (hv:Vis X.env.scope x:=by first | exact Or.inl rfl | exact Or.inr (Or.inl rfl) | exact Or.inr (Or.inr rfl)) (hd:(x == ("__debug__" : Str))=false:=by decide) (hcd:(x == ("__classdict__" : Str))=false:=by decide):SPE X (.Name x pos) (tVar i):=⟨pv i hN hv hd hcd⟩
theorem zpe_int {i j pos}:SPE X (.Constant (.int i) j pos) (tC (.int i)):=⟨pe_int ⟩
theorem zpe_bl {b j pos}:SPE X (.Constant (.bool b) j pos) (tC (.bl b)):=⟨pe_bl ⟩
theorem zpe_non {j pos}:SPE X (.Constant .none j pos) (tC .non):=⟨pe_non ⟩
theorem zpe_str {x j pos}:SPE X (.Constant (.str x) j pos) (tC (.str x)):=⟨pe_str ⟩
theorem zpe_glob {x:Str} {v:V} {u:Value} {pos:Pos} (hg:Gl X x) (hm:X.mg x=some u) (r:RelV v u) (hd:(x == ("__debug__" : Str))=false:=by decide):SPE X (.Name x pos) (tC v):=⟨pe_glob hg hm r hd⟩
theorem zpe_bltn {x:Str} {v:V} {u:Value} {pos:Pos} (hg:Gl X x) (hm:X.mg x=none) (hv:bootBuiltins x=some u) (r:RelV v u) (hn:x≠"__name__":=by decide) (hd:(x == ("__debug__" : Str))=false:=by decide):SPE X (.Name x pos) (tC v):=⟨pe_bltn hg hm hv r hn hd⟩
end
section
variable {X:Cx} {a b:Expr} {ta tb:TE} {pos:Pos} {tA tB':TT} {rest:List Expr}
theorem zpe_one {op} {t:TE} (h:SPE X a t):SPE X (.BoolOp op [a] pos) t:=⟨pe_one h.out⟩
theorem zpe_and (ha:SPE X a ta) (hb:SPE X (.BoolOp .And (b :: rest) pos) tb):SPE X (.BoolOp .And (a :: b :: rest) pos) (tAndV ta tb):=⟨pe_and ha.out hb.out⟩
theorem zpe_or (ha:SPE X a ta) (hb:SPE X (.BoolOp .Or (b :: rest) pos) tb):SPE X (.BoolOp .Or (a :: b :: rest) pos) (tOrV ta tb):=⟨pe_or ha.out hb.out⟩
theorem zpe_not (ha:SPE X a ta):SPE X (.UnaryOp .Not a pos) (tNotV ta):=⟨pe_not ha.out⟩
end
section
variable {X:Cx} {a b:Expr} {ta tb:TE} {pos:Pos}
theorem zpe_cmp {op:CmpOp} {t:TE} (h:SPC X op a b t) (h1:behindInMarks op b=false:=by first | exact nobehind _ (by decide) (by decide) | rfl):SPE X (.Compare a [op] [b] pos) t:=⟨pe_cmp h.out h1⟩
theorem zpc_isN {j pos'} (ha:SPE X a ta):SPC X .Is a (.Constant .none j pos') (tIsN ta):=⟨pc_isN ha.out⟩
theorem zpc_notN {j pos'} (ha:SPE X a ta):SPC X .IsNot a (.Constant .none j pos') (tNotN ta):=⟨pc_notN ha.out⟩
theorem zpt_cmp {op:CmpOp} {t:TE} (h:SPC X op a b t) (h1:behindInMarks op b=false:=by first | exact nobehind _ (by decide) (by decide) | rfl):SPT X (.Compare a [op] [b] pos) (tB t):=⟨pt_cmp h.out h1⟩
theorem zpt_val {e:Expr} {t:TE} (h:SPE X e t) (he:∀whole,isTrue e X.env whole=(do let v ← whole; standAt e.pos; holding [v] (truthy v)):=by intro _; rfl):SPT X e (tB t):=⟨pt_val h.out he⟩
end
section
variable {X:Cx} {a b:Expr} {ta tb:TE} {pos:Pos} {tA tB':TT} {rest:List Expr}
theorem zpw_and1 (ha:SPT X a tA):SPW X (.BoolOp .And [a] pos) tA:=⟨pw_and1 ha.out⟩
theorem zpw_or1 (ha:SPT X a tA):SPW X (.BoolOp .Or [a] pos) tA:=⟨pw_or1 ha.out⟩
theorem zpw_and (ha:SPT X a tA) (hb:SPW X (.BoolOp .And (b :: rest) pos) tB'):SPW X (.BoolOp .And (a :: b :: rest) pos) (tAnd tA tB'):=⟨pw_and ha.out hb.out⟩
theorem zpw_or (ha:SPT X a tA) (hb:SPW X (.BoolOp .Or (b :: rest) pos) tB'):SPW X (.BoolOp .Or (a :: b :: rest) pos) (tOr tA tB'):=⟨pw_or ha.out hb.out⟩
theorem zpt_not (ha:SPT X a tA):SPT X (.UnaryOp .Not a pos) (tNot tA):=⟨pt_not ha.out⟩
end
section
variable {X:Cx} {st:Stmt} {rest:List Stmt} {t u:TS} {e:Expr} {te:TE} {pos:Pos}
theorem zpss_nil  : SPSs X [] tNext:=⟨pss_nil ⟩
theorem zpss_cons (h1:SPS X st t) (h2:SPSs X rest u):SPSs X (st :: rest) (tSeq t u):=⟨pss_cons h1.out h2.out⟩
theorem zpss_one (h1:SPS X st t):SPSs X [st] t:=⟨pss_one h1.out⟩
theorem zps_expr (he:SPE X e te) (hs:swapsWith e none pos.line X.env=pure false:=by rfl):SPS X (.Expr e pos) (tDrop te):=⟨ps_expr he.out hs⟩
theorem zps_ret (he:SPE X e te):SPS X (.Return (some e) pos) (tRet te):=⟨ps_ret he.out⟩
theorem zps_if {c:Expr} {a b:List Stmt} {tc:TT} (hc:SPT X c tc) (ha:SPSs X a t) (hb:SPSs X b u):SPS X (.If c a b pos) (tIfS tc t u):=⟨ps_if hc.out ha.out hb.out⟩
end
section
variable {X:Cx} {pos:Pos}
theorem zpg_name {i:Nat} {x:Str} (hN:X.N.Nodup) (hi:X.N[i]? = some x) (hx:Loc X.env.scope x) (hf:X.fn x=true∨X.env.scope.names.lookup x=some .local:=by first | exact .inl rfl | exact .inr rfl | assumption):SPG X (.Name x pos) (gName i):=⟨pg_name hN hi hx hf⟩
theorem zpgs_nil  : SPGs X [] gNil:=⟨pgs_nil ⟩
theorem zpgs_cons {e:Expr} {es:List Expr} {t:TG} {u:TGs} (h1:SPG X e t) (h2:SPGs X es u) (hs:(assignEach (e :: es) X.env).map (·.2)=assign e X.env :: (assignEach es X.env).map (·.2):=by rfl):SPGs X (e :: es) (gCons t u):=⟨pgs_cons h1.out h2.out hs⟩
theorem zpg_tup {es:List Expr} {k:Nat} {t:TGs} {n:Nat} (hc:X.calm=true) (h:SPGs X es t) (hn:(assignEach es X.env).length=n:=by rfl) (hst:(assignEach es X.env).findIdx? (·.1)=none:=by rfl):SPG X (.Tuple es k pos) (gTup X.K n t):=⟨pg_tup hc h.out hn hst⟩
theorem zpg_sub {o i:Expr} {to ti:TE} {t:TSet} (ho:SPE X o to) (hi:SPE X i ti) (hs:PSet X t) (ha:∀v,assign (.Subscript o i pos) X.env v=(do
   let ov ← holding [v] (eval o X.env)
   let iv ← holding [v,ov] (eval i X.env)
   standAt pos
   holding [v,ov,iv] (setItem ov iv v)
   release [v,ov,iv] []):=by intro _; rfl):SPG X (.Subscript o i pos) (gSub to ti t):=⟨pg_sub ho.out hi.out hs ha⟩
theorem zps_asg {tg e:Expr} {te:TE} {g:TG} (he:SPE X e te) (hg:SPG X tg g) (hs:swapsWithSole [tg] e pos.line X.env=pure false:=by rfl) (hw:swappedStores [tg] e X.env=pure none:=by rfl) (h1:(assignEach [tg] X.env).map (·.2)=[assign tg X.env]:=by rfl):SPS X (.Assign [tg] e pos) (tAsg te g):=⟨ps_asg he.out hg.out hs hw h1⟩
theorem zps_set {i:Nat} {x:Str} {e:Expr} {te:TE} {pos':Pos} (hN:X.N.Nodup) (hi:X.N[i]? = some x) (hx:Loc X.env.scope x) (he:SPE X e te) (hs:swapsWith e (some (.Name x pos')) pos.line X.env=pure false:=by rfl) (hf:X.fn x=true∨X.env.scope.names.lookup x=some .local:=by first | exact .inl rfl | exact .inr rfl | assumption):SPS X (.Assign [.Name x pos'] e pos) (tAsg te (gName i)):=⟨ps_set hN hi hx he.out hs hf⟩
end
section
variable {X:Cx} {tg:Expr}
theorem zpi_list {l:Expr} {tl:TE} (hl:SPE X l tl):SPI X tg l (iList X.K tl):=⟨pi_list hl.out⟩
theorem zpi_range1 {a:Expr} {ta:TA} {p pos:Pos} (hg:Gl X "range") (hm:X.mg "range" = none) (ha:SPA X [a] ta) (hs:starEach [a] X.env=[(false,eval a X.env)]:=by rfl):SPI X tg (.Call (.Name "range" p) [a] [] pos) (iRng1 ta):=⟨pi_range1 hg hm ha.out hs⟩
theorem zpi_range2 {a b:Expr} {ta:TA} {p pos:Pos} (hg:Gl X "range") (hm:X.mg "range" = none) (ha:SPA X [a,b] ta) (hs:starEach [a,b] X.env=[(false,eval a X.env),(false,eval b X.env)]:=by rfl) (hs2:starEach [b] X.env=[(false,eval b X.env)]:=by rfl):SPI X tg (.Call (.Name "range" p) [a,b] [] pos) (iRng2 ta):=⟨pi_range2 hg hm ha.out hs hs2⟩
end
section
variable {X:Cx} {es:List Expr} {tk:Nat} {tpos:Pos}
end
section
variable {X:Cx} {tg:Expr}
theorem zps_for {iter:Expr} {body:List Stmt} {wi:TI} {g:TG} {tb:TS} {pos:Pos} (hp:PassesOwn (model X.prog X.w) X.A X.env X.xe) (hc:X.calm=true) (hi:SPI X tg iter wi) (hg:SPG X tg g) (hb:SPSs X body tb) (hs:∀x,foldedSetIterable iter X.env x=pure x:=by intro _; rfl):SPS X (.For tg iter body [] pos) (tFor wi g tb):=⟨ps_for hp hc hi.out hg.out hb.out hs⟩
end
section
variable {X:Cx} {a b c:Expr} {ta tb tc:TE} {pos:Pos}
theorem zpe_op {op:Operator} {r:R2} (ho:OpR X (binaryOp op) r) (ha:SPE X a ta) (hb:SPE X b tb):SPE X (.BinOp a op b pos) (tOp r ta tb):=⟨pe_op ho ha.out hb.out⟩
theorem zpe_un {op:UnaryOp} {r:V→Hp→VK→Prop} (ho:UnR X (unaryOp op) r) (ha:SPE X a ta):SPE X (.UnaryOp op a pos) (tUn r ta):=⟨pe_un ho ha.out⟩
theorem zpe_cmpR {op:CmpOp} {r:R2} (ho:OpR X (compareOp op) r) (ha:SPE X a ta) (hb:SPE X b tb) (hm:behindInMarks op b=false):SPE X (.Compare a [op] [b] pos) (tOp r ta tb):=⟨pe_cmpR ho ha.out hb.out hm⟩
theorem zpt_cmpR {op:CmpOp} {r:R2} (ho:OpR X (compareOp op) r) (ha:SPE X a ta) (hb:SPE X b tb) (hm:behindInMarks op b=false):SPT X (.Compare a [op] [b] pos) (tTest (tOp r ta tb)):=⟨pt_cmpR ho ha.out hb.out hm⟩
end
section
variable {X:Cx} {e:Expr} {es:List Expr} {te:TE} {t:TA} {pos:Pos}
theorem zpe_tup {x1} (h:SPA X es t):SPE X (.Tuple es x1 pos) (tTup t):=⟨pe_tup h.out⟩
theorem zpe_lst (h:SPA X es t):SPE X (.List es pos) (tLst t):=⟨pe_lst h.out⟩
end
section
variable {X:Cx} {CX:CXT} {k:Nat} {f C:Addr} {fd:FuncData} {ps:List Str} {sp:Sp} {dvs:List V} {ds:List Value} {E:XK} {x m:Str} {p pos apos:Pos} {e o:Expr} {es:List Expr} {ta:TE} {t:TA}
theorem zpe_call (F:FnOk X.prog X.w X.K X.mg X.base CX k f fd ps sp) (hr:Room k X.A) (hg:Gl X x) (hm:X.mg x=some (.ref f)) (hk:PySem.W.keepIn X.K (.ref f)=true) (hb:Binds X.K fd ps ds) (hd:Vals dvs ds) (hx:Passes CX X E) (ha:SPA X (e :: es) t) (hdb:(x == ("__debug__" : Str))=false:=by decide) (he:starEach (e :: es) X.env=(false,eval e X.env) :: starEach es X.env:=by rfl) (hpl:(backTo pos (starEach es X.env)).any (·.1)=false:=by rfl):SPE X (.Call (.Name x p) (e :: es) [] pos) (tCall sp dvs E t):=⟨pe_call F hr hg hm hk hb hd hx ha.out hdb he hpl⟩
end
section
variable {X:Cx} {x:Str} {p pos:Pos} {e:Expr} {es:List Expr} {t:TA} {id T:String} {r:List V→Hp→VK→Prop}
theorem zpe_callB (hc:CallR X (.builtin id) r) (hg:Gl X x) (hm:X.mg x=none) (hv:bootBuiltins x=some (.builtin id)) (ha:SPA X (e :: es) t) (hn:x≠"__name__":=by decide) (hdb:(x == ("__debug__" : Str))=false:=by decide) (he:starEach (e :: es) X.env=(false,eval e X.env) :: starEach es X.env:=by rfl) (hpl:(backTo pos (starEach es X.env)).any (·.1)=false:=by rfl):SPE X (.Call (.Name x p) (e :: es) [] pos) (tCB r t):=⟨pe_callB hc hg hm hv ha.out hn hdb he hpl⟩
theorem zpe_callTy (hc:CallR X (.type T) r) (hg:Gl X x) (hm:X.mg x=none) (hv:bootBuiltins x=some (.type T)) (ha:SPA X (e :: es) t) (hn:x≠"__name__":=by decide) (hdb:(x == ("__debug__" : Str))=false:=by decide) (he:starEach (e :: es) X.env=(false,eval e X.env) :: starEach es X.env:=by rfl) (hpl:(backTo pos (starEach es X.env)).any (·.1)=false:=by rfl):SPE X (.Call (.Name x p) (e :: es) [] pos) (tCB r t):=⟨pe_callTy hc hg hm hv ha.out hn hdb he hpl⟩
theorem zpe_callTy0 (hc:CallR X (.type T) r) (hg:Gl X x) (hm:X.mg x=none) (hv:bootBuiltins x=some (.type T)) (hn:x≠"__name__":=by decide) (hdb:(x == ("__debug__" : Str))=false:=by decide):SPE X (.Call (.Name x p) [] [] pos) (tCB r tNil):=⟨pe_callTy0 hc hg hm hv hn hdb⟩
end
section
variable {X:Cx} {e:Expr} {te:TE} {lo hi:Option Expr} {tl th:TO} {pos p2:Pos}
theorem zpe_slice {r:V→Option Int→Option Int→Hp→VK→Prop} (hr:SlR X r) (he:SPE X e te) (hl:SPO X lo tl) (hu:SPO X hi th):SPE X (.Subscript e (.Slice lo hi none p2) pos) (tSl r te tl th):=⟨pe_slice hr he.out hl.out hu.out⟩
theorem zpo_none  : SPO X none tNoPart:=⟨po_none ⟩
theorem zpo_some (h:SPE X e te):SPO X (some e) (tPart te):=⟨po_some h.out⟩
end
section
variable {X:Cx} {a b:Expr} {ta tb:TE} {pos:Pos}
theorem zpe_ix {r:R2} (hr:IxR X r) (ha:SPE X a ta) (hb:SPE X b tb) (hs:PlainIx b):SPE X (.Subscript a b pos) (tOp r ta tb):=⟨pe_ix hr ha.out hb.out hs⟩
end
section
variable {X:Cx} {a b:Expr} {ta tb:TE} {pos:Pos} {o e:Expr} {es:List Expr} {to:TE} {t:TA} {name:Str} {apos cpos:Pos} {T id:String} {r:V→List V→Hp→VK→Prop}
theorem zpe_bm0 (pa:PlainAttrs T) (slot:Slot T name id) (hty:typeOf (.builtin id)=pure (.type "method_descriptor")) (hm:MtR X id r) (ho:SPE X o to) (hbase:attributeBase o name X.env (eval o X.env)=eval o X.env:=by rfl) (hline:(apos.endLine == cpos.line)=true:=by rfl):SPE X (.Call (.Attribute o name apos) [] [] cpos) (tBM0 X.K T r to):=⟨pe_bm0 pa slot hty hm ho.out hbase hline⟩
theorem zpe_bm (pa:PlainAttrs T) (slot:Slot T name id) (hty:typeOf (.builtin id)=pure (.type "method_descriptor")) (hm:MtR X id r) (ho:SPE X o to) (ha:SPA X (e :: es) t) (hbase:attributeBase o name X.env (eval o X.env)=eval o X.env:=by rfl) (hfew:((backTo cpos (starEach (e :: es) X.env)).all (fun x=>!x.1) && (backToKw cpos (keywordEach [] X.env)).all (fun x=>x.1.isSome)
   && decide ((e :: es).length + ([]:List Keyword).length + (if ([]:List Keyword).isEmpty then 0 else 1) < 30))=true:=by rfl) (hline:(apos.endLine == cpos.line)=true:=by rfl) (hs:starEach (e :: es) X.env=(false,eval e X.env) :: starEach es X.env:=by rfl) (hplain:(backTo cpos (starEach es X.env)).any (·.1)=false:=by rfl):SPE X (.Call (.Attribute o name apos) (e :: es) [] cpos) (tBM X.K T r to t):=⟨pe_bm pa slot hty hm ho.out ha.out hbase hfew hline hs hplain⟩
end
section
variable {X:Cx} {e:Expr} {es:List Expr} {te:TE} {t:TA} {pos:Pos}
theorem zpa_nil  : SPA X [] tNil:=⟨pa_nil ⟩
end
section
theorem zpe_dict0 {X:Cx} {pos:Pos}:SPE X (.Dict [] [] pos) tDict0:=⟨pe_dict0 ⟩
end
section
end
section
variable {X:Cx} {k:Nat} {f:Addr} {fd:FuncData} {ps:List Str} {sp:Sp} {dvs:List V} {ds:List Value} {x:Str} {p pos:Pos} {e:Expr} {es:List Expr} {t:TA}
theorem zpex_call (F:FnOk X.prog X.w X.K X.mg X.base (CXE X.prog X.w) k f fd ps sp) (hr:Room k X.A) (hg:Gl X x) (hm:X.mg x=some (.ref f)) (hk:PySem.W.keepIn X.K (.ref f)=true) (hb:Binds X.K fd ps ds) (hd:Vals dvs ds) (ha:SPA X.nox (e :: es) t) (hdb:(x == ("__debug__" : Str))=false:=by decide) (he:starEach (e :: es) X.env=(false,eval e X.env) :: starEach es X.env:=by rfl) (hpl:(backTo pos (starEach es X.env)).any (·.1)=false:=by rfl):SPEX X (.Call (.Name x p) (e :: es) [] pos) (tCallX sp dvs t):=⟨pex_call F hr hg hm hk hb hd ha.out hdb he hpl⟩
theorem zpsx_expr {te:TEX} (he:SPEX X e te) (hs:swapsWith e none pos.line X.env=pure false:=by rfl):SPSX X [.Expr e pos] (fun D E σ H=>te σ H (fun _ H1=>D.nx σ H1) E):=⟨psx_expr he.out hs⟩
end
section
theorem zps_cut {X:Cx} {st:Stmt} {t:TS} (h:SPS X st t):SPS X st (tCut t):=⟨ps_cut h.out⟩
end
section
variable {X:Cx} {es:List Expr} {t:TA} {te:TE} {pos:Pos} {l r:List Expr} {k:Nat} {o:Operator} {a b:Expr} {cst:Const} {x:Str} {u:UnaryOp} {kw:List Keyword} {f:Expr}
theorem zpac_c (ha:SPE X (.Constant cst k pos) te) (hr:SPA X es t):SPA X (.Constant cst k pos :: es) (tCons te t):=⟨pac_c ha.out hr.out⟩
theorem zpac_n (ha:SPE X (.Name x pos) te) (hr:SPA X es t):SPA X (.Name x pos :: es) (tCons te t):=⟨pac_n ha.out hr.out⟩
theorem zpac_l (ha:SPE X (.List l pos) te) (hr:SPA X es t):SPA X (.List l pos :: es) (tCons te t):=⟨pac_l ha.out hr.out⟩
theorem zpac_t (ha:SPE X (.Tuple l k pos) te) (hr:SPA X es t):SPA X (.Tuple l k pos :: es) (tCons te t):=⟨pac_t ha.out hr.out⟩
theorem zpac_d {ks:List (Option Expr)} {vs:List Expr} (ha:SPE X (.Dict ks vs pos) te) (hr:SPA X es t):SPA X (.Dict ks vs pos :: es) (tCons te t):=⟨pac_d ha.out hr.out⟩
theorem zpac_b (ha:SPE X (.BinOp a o b pos) te) (hr:SPA X es t):SPA X (.BinOp a o b pos :: es) (tCons te t):=⟨pac_b ha.out hr.out⟩
theorem zpac_u (ha:SPE X (.UnaryOp u a pos) te) (hr:SPA X es t):SPA X (.UnaryOp u a pos :: es) (tCons te t):=⟨pac_u ha.out hr.out⟩
theorem zpac_f (ha:SPE X (.Call f l kw pos) te) (hr:SPA X es t):SPA X (.Call f l kw pos :: es) (tCons te t):=⟨pac_f ha.out hr.out⟩
theorem zpac_s (ha:SPE X (.Subscript a b pos) te) (hr:SPA X es t):SPA X (.Subscript a b pos :: es) (tCons te t):=⟨pac_s ha.out hr.out⟩
end
theorem zps_try_as {X:Cx} {body:List Stmt} {tb:TSX} {th:TS} {d n:Str} {D:Addr} {j:Nat} {b0:Stmt} {suite:List Stmt} {pd hpos pos:Pos} (hb:SPSX X body tb) (hN:X.N.Nodup) (hj:X.N[j]? = some n) (hx:X.env.scope.names.lookup n=some .local)
  (hst:X.stack=X.env :: X.outer) (hL:X.env.frame=some X.env.locals) (hg:Gl X d) (hm:X.mg d=some (.ref D)) (c:CatchK X.K D) (hs:∀e,SPSs (X.held e) (b0 :: suite) th) (hd:(d == ("__debug__" : Str))=false:=by decide) :
  SPS X (.Try body [.ExceptHandler (some (.Name d pd)) (some n) (b0 :: suite) hpos] [] [] pos) (tTryAs X.K D j tb th):=⟨ps_try_as hb.out hN hj hx hst hL hg hm c (fun e=>(hs e).out) hd⟩
structure SPTs (X:Cx) (ifs:List Expr) (t:TT):Prop where
 out:PTs X ifs t
theorem zpts_nil {X:Cx}:SPTs X [] (fun _ H Q=>Q true H):=⟨pts_nil⟩
theorem zpts_one {X:Cx} {e:Expr} {t:TT} (h:SPT X e t):SPTs X [e] t:=⟨pts_one h.out⟩
section
variable {X:Cx} {tg iter elt:Expr} {ifs:List Expr} {scope esc:Scope} {pos gpos p:Pos} {N os:List Str} {fi:List Nat} {wi:TI} {g:TG} {tt:TT} {te:TE} {c P:Addr} {k:Nat}
theorem zpi_str {l:Expr} {tl:TE} (hl:SPE X l tl):SPI X tg l (iStr tl):=⟨pi_str hl.out⟩
theorem zpe_comp (N os:List Str) (fi:List Nat) (esc:Scope) (hc:X.calm=true) (hN:X.N=N) (he:X.env.scope=esc) (B:BlkOk esc scope N fi) (hi:SPI X tg iter wi)
  (hg:∀s H fp,SPG (blk X scope (nB N os fi) s H fp) tg g) (ht:∀s H fp,SPTs (blk X scope (nB N os fi) s H fp) ifs tt) (hel:∀s H fp,SPE (blk X scope (nB N os fi) s H fp) elt te)
  (hs:∀x,foldedSetIterable iter X.env x=pure x:=by intro _; rfl):SPE X (.ListComp elt [⟨tg,iter,ifs,0⟩] scope pos) (tLC os fi wi g tt te):=
 ⟨pe_comp hc hN he B hi.out (fun s H fp=>(hg s H fp).out) (fun s H fp=>(ht s H fp).out) (fun s H fp=>(hel s H fp).out) hs⟩
theorem zps_comp (N os:List Str) (fi:List Nat) (esc:Scope) {i:Nat} {y:Str} {py:Pos} {spos:Pos} (hc:X.calm=true) (hN:X.N=N) (he:X.env.scope=esc) (B:BlkOk esc scope N fi) (hnd:X.N.Nodup) (hy:X.N[i]? = some y) (hl:Loc X.env.scope y) (hi:SPI X tg iter wi)
  (hg:∀s H fp,SPG (blk X scope (nB N os fi) s H fp) tg g) (ht:∀s H fp,SPTs (blk X scope (nB N os fi) s H fp) ifs tt) (hel:∀s H fp,SPE (blk X scope (nB N os fi) s H fp) elt te)
  (hsw:swapsWith (.ListComp elt [⟨tg,iter,ifs,0⟩] scope pos) (some (.Name y py)) spos.line X.env=pure true:=by rfl)
  (hfn:X.fn y=true∨X.env.scope.names.lookup y=some .local:=by first | exact .inl rfl | exact .inr rfl | assumption)
  (hs:∀x,foldedSetIterable iter X.env x=pure x:=by intro _; rfl):SPS X (.Assign [.Name y py] (.ListComp elt [⟨tg,iter,ifs,0⟩] scope pos) spos) (fun D σ H=>tLC os fi wi g tt te σ H fun v H'=>D.nx (σ.set i (some v)) H'):=
 ⟨ps_comp hc hN he B hnd hy hl hi.out (fun s H fp=>(hg s H fp).out) (fun s H fp=>(ht s H fp).out) (fun s H fp=>(hel s H fp).out) hsw hfn hs⟩
theorem zpe_all (N os:List Str) (fi:List Nat) (esc:Scope) (hc:X.calm=true) (hr:Room k X.A) (hgl:Gl X "all") (hm:X.mg "all" = none) (hcd:X.env.code = .ref c) (CK:CodeK X.K c P) (BM:BmK X) (hN:X.N=N) (he:X.env.scope=esc) (B:BlkOk esc scope N fi) (hco:scope.isCoroutine=false) (h0:scope.names.lookup (".0" : Str)=some NameKind.local) (hi:SPI X tg iter wi)
  (hg:∀code s H fp,SPG (gblk X scope (nB N os fi) code s H fp) tg g) (hel:∀code s H fp,SPE (gblk X scope (nB N os fi) code s H fp) elt te)
  (hs:∀x,genFold iter X.env x=pure x:=by intro _; rfl):SPE X (.Call (.Name "all" p) [.GeneratorExp elt [⟨tg,iter,[],0⟩] scope gpos] [] pos) (tAll P os fi wi g te):=
 ⟨pe_all hc hr hgl hm hcd CK BM hN he B hco h0 hi.out (fun code s H fp=>(hg code s H fp).out) (fun code s H fp=>(hel code s H fp).out) hs⟩
end
section
variable {X:Cx} {elt tg iter tg2 iter2:Expr} {ifs ifs2:List Expr} {scope esc:Scope} {pos p:Pos} {N os:List Str} {fi:List Nat} {wi wi2:TI} {g g2:TG} {tt tt2:TT} {te:TE}
theorem zpe_comp2 (N os:List Str) (fi:List Nat) (esc:Scope) (hc:X.calm=true) (hN:X.N=N) (he:X.env.scope=esc) (B:BlkOk esc scope N fi) (hi:SPI X tg iter wi)
  (hg:∀s H fp,SPG (blk X scope (nB N os fi) s H fp) tg g) (ht:∀s H fp,SPTs (blk X scope (nB N os fi) s H fp) ifs tt)
  (hi2:∀s H fp,SPI (blk X scope (nB N os fi) s H fp) tg2 iter2 wi2) (hg2:∀s H fp,SPG (blk X scope (nB N os fi) s H fp) tg2 g2) (ht2:∀s H fp,SPTs (blk X scope (nB N os fi) s H fp) ifs2 tt2)
  (hel:∀s H fp,SPE (blk X scope (nB N os fi) s H fp) elt te)
  (hs:∀x,foldedSetIterable iter X.env x=pure x:=by intro _; rfl) (hs2:∀env x,foldedSetIterable iter2 env x=pure x:=by intro _ _; rfl) :
  SPE X (.ListComp elt [⟨tg,iter,ifs,0⟩,⟨tg2,iter2,ifs2,0⟩] scope pos) (tCG (fun _=>.lst []) os fi wi g tt fun D=>tIn wi2 g2 tt2 (tEmL D te)):=
 ⟨pe_comp2 hc hN he B hi.out (fun s H fp=>(hg s H fp).out) (fun s H fp=>(ht s H fp).out) (fun s H fp=>(hi2 s H fp).out) (fun s H fp=>(hg2 s H fp).out) (fun s H fp=>(ht2 s H fp).out) (fun s H fp=>(hel s H fp).out) hs hs2⟩
theorem zpe_setcomp (N os:List Str) (fi:List Nat) (esc:Scope) (hc:X.calm=true) (hN:X.N=N) (he:X.env.scope=esc) (B:BlkOk esc scope N fi) (hi:SPI X tg iter wi)
  (hg:∀s H fp,SPG (blk X scope (nB N os fi) s H fp) tg g) (ht:∀s H fp,SPTs (blk X scope (nB N os fi) s H fp) ifs tt)
  (hel:∀s H fp,SPE (blk X scope (nB N os fi) s H fp) elt te)
  (hs:∀x,foldedSetIterable iter X.env x=pure x:=by intro _; rfl) :
  SPE X (.SetComp elt [⟨tg,iter,ifs,0⟩] scope pos) (tCG (fun a=>SetT X.prog X.w a []) os fi wi g tt fun D=>tEmS X.prog X.w D te):=
 ⟨pe_setcomp hc hN he B hi.out (fun s H fp=>(hg s H fp).out) (fun s H fp=>(ht s H fp).out) (fun s H fp=>(hel s H fp).out) hs⟩
theorem zpe_rev {e:Expr} {te:TE} {k:Nat} {p1 p2 p3 pos:Pos} (he:SPE X e te):SPE X (.Subscript e (.Slice none none (some (.UnaryOp .USub (.Constant (.int 1) k p1) p3)) p2) pos) (tRev X.K te):=⟨pe_rev he.out⟩
theorem zpe_setadd {o e:Expr} {to:TE} {t:TA} {apos cpos:Pos} (ho:SPE X o to) (ha:SPA X [e] t)
  (hbase:attributeBase o "add" X.env (eval o X.env)=eval o X.env:=by rfl)
  (hfew:((backTo cpos (starEach [e] X.env)).all (fun x=>!x.1) && (backToKw cpos (keywordEach [] X.env)).all (fun x=>x.1.isSome)
   && decide ([e].length + ([]:List Keyword).length + (if ([]:List Keyword).isEmpty then 0 else 1) < 30))=true:=by rfl)
  (hline:(apos.endLine == cpos.line)=true:=by rfl) (hs:starEach [e] X.env=(false,eval e X.env) :: starEach [] X.env:=by rfl) (hplain:(backTo cpos (starEach [] X.env)).any (·.1)=false:=by rfl) :
  SPE X (.Call (.Attribute o "add" apos) [e] [] cpos) (tAddS X.prog X.w to t):=⟨pe_setadd ho.out ha.out hbase hfew hline hs hplain⟩
theorem zpss_never {sts:List Stmt}:SPSs X sts tNever:=⟨pss_never⟩
theorem pac_x {e:Expr} {te:TE} {es:List Expr} {t:TA} (ha:PE X e te) (hr:PA X es t) (hs:starEach (e :: es) X.env=(false,eval e X.env) :: starEach es X.env:=by rfl):PA X (e :: es) (tCons te t):=pa_cons ha hr hs
theorem zpac_x {e:Expr} {te:TE} {es:List Expr} {t:TA} (ha:SPE X e te) (hr:SPA X es t) (hs:starEach (e :: es) X.env=(false,eval e X.env) :: starEach es X.env:=by rfl):SPA X (e :: es) (tCons te t):=⟨pac_x ha.out hr.out hs⟩
end
section
variable {X:Cx} {kx vx tg iter:Expr} {ifs:List Expr} {scope esc:Scope} {pos p:Pos} {N os:List Str} {fi:List Nat} {wi:TI} {g:TG} {tt:TT} {tk tv:TE}
end
section
variable {X:Cx} {elt kx vx tg iter tg2 iter2:Expr} {ifs ifs2:List Expr} {scope esc:Scope} {pos p:Pos} {N os:List Str} {fi:List Nat} {wi wi2:TI} {g g2:TG} {tt tt2:TT} {te tk tv:TE}
theorem zpe_compL (N os:List Str) (fi:List Nat) (esc:Scope) (hc:X.calm=true) (hN:X.N=N) (he:X.env.scope=esc) (B:BlkOk esc scope N fi) (hi:SPI X tg iter wi)
  (hg:∀s H fp,SPG (blk X scope (nB N os fi) s H fp) tg g) (ht:∀s H fp,SPTs (blk X scope (nB N os fi) s H fp) ifs tt) (hel:∀s H fp,SPE (blk X scope (nB N os fi) s H fp) elt te)
  (hs:∀x,foldedSetIterable iter X.env x=pure x:=by intro _; rfl):SPE X (.ListComp elt [⟨tg,iter,ifs,0⟩] scope pos) (tCG (fun _=>.lst []) os fi wi g tt fun D=>tEmL D te):=
 ⟨pe_compL hc hN he B hi.out (fun s H fp=>(hg s H fp).out) (fun s H fp=>(ht s H fp).out) (fun s H fp=>(hel s H fp).out) hs⟩
theorem zps_compL (N os:List Str) (fi:List Nat) (esc:Scope) {i:Nat} {y:Str} {py spos:Pos} (hc:X.calm=true) (hN:X.N=N) (he:X.env.scope=esc) (B:BlkOk esc scope N fi) (hnd:X.N.Nodup) (hy:X.N[i]? = some y) (hl:Loc X.env.scope y) (hi:SPI X tg iter wi)
  (hg:∀s H fp,SPG (blk X scope (nB N os fi) s H fp) tg g) (ht:∀s H fp,SPTs (blk X scope (nB N os fi) s H fp) ifs tt) (hel:∀s H fp,SPE (blk X scope (nB N os fi) s H fp) elt te)
  (hsw:swapsWith (.ListComp elt [⟨tg,iter,ifs,0⟩] scope pos) (some (.Name y py)) spos.line X.env=pure true:=by rfl)
  (hfn:X.fn y=true∨X.env.scope.names.lookup y=some .local:=by first | exact .inl rfl | exact .inr rfl | assumption)
  (hs:∀x,foldedSetIterable iter X.env x=pure x:=by intro _; rfl):SPS X (.Assign [.Name y py] (.ListComp elt [⟨tg,iter,ifs,0⟩] scope pos) spos) (fun D σ H=>tCG (fun _=>.lst []) os fi wi g tt (fun D=>tEmL D te) σ H fun v H'=>D.nx (σ.set i (some v)) H'):=
 ⟨ps_compL hc hN he B hnd hy hl hi.out (fun s H fp=>(hg s H fp).out) (fun s H fp=>(ht s H fp).out) (fun s H fp=>(hel s H fp).out) hsw hfn hs⟩
end
theorem zpe_xd {X:Cx} {o:Expr} {f:Str} {pos:Pos} {ta:TE} (he:SPE X o ta) (hb:attributeBase o f X.env (eval o X.env)=eval o X.env:=by rfl):SPE X (.Attribute o f pos) (tXd X.K ta f):=⟨pe_xd he.out hb⟩
theorem zps_raiseI {P:Program} {w:World} {K:PySem.W.Frag} {mg:Str→Option Value} {base:Heap} {N:List Str} {qual:Str} {scope:Scope} {f:Addr} {cd:Value} {A:Around} {outer:List Env} {s:Shared} {H:Hp} {E:XK}
  {x Xn:Str} {C fI:Addr} {e0:Expr} {t:TA} {k:Nat} {np cpos pos:Pos} (hA:Room (k + 1) (cxOf (CXE P w) P w K mg base N qual scope f cd A outer s H E).A)
  (hg:Gl (cxOf (CXE P w) P w K mg base N qual scope f cd A outer s H E) x) (hm:mg x=some (.ref C)) (q:InitK P w K mg C fI Xn) (ha:SPA (cxOf (CXE P w) P w K mg base N qual scope f cd A outer s H E) [e0] t) (hd:(x == ("__debug__" : Str))=false:=by decide)
  (he:starEach [e0] (cxOf (CXE P w) P w K mg base N qual scope f cd A outer s H E).env=[(false,eval e0 (cxOf (CXE P w) P w K mg base N qual scope f cd A outer s H E).env)]:=by rfl) :
  SPS (cxOf (CXE P w) P w K mg base N qual scope f cd A outer s H E) (.Raise (some (.Call (.Name x np) [e0] [] cpos)) none pos) (tRaiseI C Xn E t):=⟨ps_raiseI hA rfl hg hm q ha.out hd he⟩
section
variable {P:Program} {w:World} {K:PySem.W.Frag} {mg:Str→Option Value} {base:Heap} {x qual:Str} {st:Stmt} {dV:Value} {f:Addr} {fd:FuncData} {N ps:List Str} {k:Nat} {sp:Sp}
theorem FunG.zokE (F:FunG K x qual st dV f fd) (S:FnScope N ps (defScope st)) (len:∀vs H Q E,sp vs H Q E→vs.length=ps.length)
  (hbody:∀(cdv:Value) (A:Around) (outer:List Env) (s:Shared) (H:Hp) (vs:List V) (Q:VK) (E:XK),Room k (A.deeper (envOfC qual (defScope st) s.heap.objs.size f cdv))→sp vs H Q E→
   ∃t,SPSs (cxOf (CXE P w) P w K mg base N qual (defScope st) f cdv A outer s H E) (defBody st) t∧t {nx:=fun _ H'=>Q .non H',rt:=Q} (start N vs) H):FnOk P w K mg base (CXE P w) (k + 1) f fd ps sp:=
 F.okE S len fun cdv A outer s H vs Q E hr hsp=>by
  obtain ⟨t,h,q⟩:=hbody cdv A outer s H vs Q E hr hsp
  exact ⟨t,h.out,q⟩
theorem FunG.zokN (F:FunG K x qual st dV f fd) (S:FnScope N ps (defScope st)) (len:∀vs H Q E,sp vs H Q E→vs.length=ps.length)
  (hbody:∀(cdv:Value) (A:Around) (outer:List Env) (s:Shared) (H:Hp) (vs:List V) (Q:VK) (E:XK),Room k (A.deeper (envOfC qual (defScope st) s.heap.objs.size f cdv))→sp vs H Q E→
   ∃t,SPSs (cxOf (CXE P w) P w K mg base N qual (defScope st) f cdv A outer s H E).nox (defBody st) t∧t {nx:=fun _ H'=>Q .non H',rt:=Q} (start N vs) H):FnOk P w K mg base (CXE P w) (k + 1) f fd ps sp:=
 F.okN S len fun cdv A outer s H vs Q E hr hsp=>by
  obtain ⟨t,h,q⟩:=hbody cdv A outer s H vs Q E hr hsp
  exact ⟨t,h.out,q⟩
end
section
variable {P:Program} {w:World} {K:PySem.W.Frag} {mg:Str→Option Value} {base:Heap} {x qual:Str} {st:Stmt} {dV kV doc pm ct oc:Value} {an od:Option Addr} {osl:Array (Option Value)} {f c:Addr} {N ps:List Str} {k:Nat} {sp:Sp}
theorem okC (lk:K.lookup f=some ⟨oc,od,.func (PySem.W.fnOf x qual (defArgs st) (defBody st) (defScope st) dV kV doc pm an (.ref c) ct),osl⟩) (hcd:PySem.W.codeIn K (.ref c) qual=true) (S:FnScope N ps (defScope st)) (len:∀vs H Q E,sp vs H Q E→vs.length=ps.length)
  (hbody:∀(A:Around) (outer:List Env) (s:Shared) (H:Hp) (vs:List V) (Q:VK) (E:XK),Room k (A.deeper (envOfC qual (defScope st) s.heap.objs.size f (.ref c)))→sp vs H Q E→
   ∃t,SPSs (cxOf (CXE P w) P w K mg base N qual (defScope st) f (.ref c) A outer s H E).nox (defBody st) t∧t {nx:=fun _ H'=>Q .non H',rt:=Q} (start N vs) H) :
  FnOk P w K mg base (CXE P w) (k + 1) f (PySem.W.fnOf x qual (defArgs st) (defBody st) (defScope st) dV kV doc pm an (.ref c) ct) ps sp:=
 fn_of lk hcd S len fun A outer s H vs Q E hr h=>by
  obtain ⟨t,h1,h2⟩:=hbody A outer s H vs Q E hr h
  exact ⟨t,h1.out.nox,h2⟩
end
theorem boot_str:bootBuiltins "str" = some (.type "str"):=by decide +kernel
end L2
namespace G1
open PySem L2 GM
def letters:Str:="abcdefghijklmnopqrstuvwxyz"
def occ (c:Nat):Bool:=!(Builtin.Str.occurrences letters ⟨#[c]⟩ 0 letters.length 1).isEmpty
def nameB:V→Bool
 | .str z=>decide (z≠"") && (decide (z.length≤8) && z.cps.toList.all occ)
 | _=>false
def isS:V→Bool
 | .str _=>true
 | _=>false
section
variable {P:Program} {w:World} {K:PySem.W.Frag} {mg:Str→Option Value} {base:Heap}
theorem ks1:PySem.W.kitOne K (.type "int") (.type "str")=some false:=by kernel_rfl
theorem ks2:PySem.W.kitOne K (.type "bool") (.type "str")=some false:=by kernel_rfl
theorem ks3:PySem.W.kitOne K (.type "NoneType") (.type "str")=some false:=by kernel_rfl
theorem ks4:PySem.W.kitOne K (.type "str") (.type "str")=some true:=by kernel_rfl
theorem ks5:PySem.W.kitOne K (.type "list") (.type "str")=some false:=by kernel_rfl
theorem ks6:PySem.W.kitOne K (.type "tuple") (.type "str")=some false:=by kernel_rfl
theorem ks7:PySem.W.kitOne K (.type "dict") (.type "str")=some false:=by kernel_rfl
theorem _root_.L2.Th.tyS {H:Hp} {x:V} (h:Th H x):∃t,TyX K H x t∧PySem.W.kitOne K t (.type "str")=some (isS x):=by
 cases h with
 | non=>exact ⟨_,.of .non,ks3⟩
 | bl b=>exact ⟨_,.of (.bl b),ks2⟩
 | int i=>exact ⟨_,.of (.int i),ks1⟩
 | str x=>exact ⟨_,.of (.str x),ks4⟩
 | lst h=>exact ⟨_,.of (.lst h),ks5⟩
 | tup h=>exact ⟨_,.of (.tup h),ks6⟩
 | dK h=>exact ⟨_,.of (.dK h),ks7⟩
def spName (T:Addr):Sp:=fun vs H Q _=>∃x ps,vs=[x]∧Th H x∧(∀z,x = .str z→z.length≤sizeLine)∧H T=some (.tbl ps)∧TriplesOk ps.toList∧∀ps',TriplesOk ps'.toList→Q (.bl (nameB x)) (upd H T (.tbl ps'))
theorem scN:FnScope ["thing"] ["thing"] (defScope sName):=⟨rfl,rfl,rfl,by decide +kernel,rfl,by decide +kernel,by decide +kernel⟩
theorem ok_name {f c T:Addr} {kV doc pm ct oc:Value} {an od:Option Addr} {osl:Array (Option Value)} {t1 t2:Tok}
  (lk:K.lookup f=some ⟨oc,od,.func (PySem.W.fnOf "is_name" "is_name" (defArgs sName) (defBody sName) (defScope sName) .none kV doc pm an (.ref c) ct),osl⟩) (hcd:PySem.W.codeIn K (.ref c) "is_name" = true)
  (B:Bl mg) (CK:CodeK K c T) (hbm:BmOf mg base) (mL:mg "LETTERS" = some (.str letters t1)) (mM:mg "LONGEST_NAME" = some (.int 8 t2)) :
  FnOk P w K mg base (CXE P w) 2 f (PySem.W.fnOf "is_name" "is_name" (defArgs sName) (defBody sName) (defScope sName) .none kV doc pm an (.ref c) ct) ["thing"] (spName T):=by
 refine okC lk hcd scN (fun vs H Q E h=>?_) (fun A outer s H vs Q E hr h=>?_)
 ·obtain ⟨x,ps,rfl,_⟩:=h
  rfl
 ·obtain ⟨x,ps,rfl,hx,len,hT,tr,q⟩:=h
  refine ⟨_,zpss_cons (zps_if (zpw_or (zpt_not (zpt_val (zpe_callB call_isi (by rfl) B.isi boot_isi (zpac_n (zpv 0) (zpac_n (zpe_bltn (by rfl) B.str boot_str (v:=.ty "str") rfl) zpa_nil)))))
    (zpw_or (zpt_cmpR op_eq (zpv 0) zpe_str (nomark _)) (zpw_or1 (zpt_cmpR op_gt (zpe_callB call_len_str (by rfl) B.len PySem.boot_len (zpac_n (zpv 0) zpa_nil)) (zpe_glob (by rfl) mM (v:=.int 8) ⟨_,rfl⟩) (nomark _))))).pt (zpss_one (zps_ret zpe_bl)) zpss_nil)
   (zpss_one (zps_ret (zpe_all ["thing"] ["sign"] [] (defScope sName) rfl hr (by rfl) B.all rfl CK ⟨hbm⟩ rfl rfl ⟨by decide +kernel,by decide +kernel,by decide +kernel,by decide +kernel,by decide +kernel⟩ (by decide +kernel) (by decide +kernel) (zpi_str (zpv 0))
    (fun code s H fp=>zpg_name (i:=0) (show List.Nodup [("sign" : Str)] by decide +kernel) rfl (Or.inl rfl)) (fun code s H fp=>zpe_cmpR op_in_str (zpv 0) (zpe_glob (by rfl) mL (v:=.str letters) ⟨_,rfl⟩) rfl)))),?_⟩
  obtain ⟨t,ty,e1⟩:=hx.tyS (K:=K)
  refine ⟨_,rfl,_,_,t,isS x,rfl,ty,.inl ⟨_,rfl,e1⟩,_,rfl,?_⟩
  have self:∀{b:Bool},nameB x=b→Q (.bl b) H:=fun {b} e=>by
   have:=q ps tr
   rw [upd_self hT,e] at this
   exact this
  cases x with
  | str z=>
   refine iteF ⟨_,rfl,rfl,_,rfl,?_⟩
   refine ite2 (fun e=>?_) (fun e=>?_)
   ·have e':V.str z=V.str "":=of_decide_eq_true e
    injection e' with e'
    refine iteT (self ?_)
    simp [nameB,e']
   ·have ne:z≠"":=fun y=>e (decide_eq_true (by rw [y]))
    refine ⟨_,rfl,z,rfl,len z rfl,_,_,rfl,rfl,_,rfl,?_⟩
    refine ite2 (fun e8=>?_) (fun e8=>?_)
    ·have g8:(8:Int) < (z.length:Int):=of_decide_eq_true e8
     refine self ?_
     have:decide (z.length≤8)=false:=decide_eq_false (by omega)
     simp [nameB,this]
    ·have l8:z.length≤8:=by
      have:¬(8:Int) < (z.length:Int):=fun y=>e8 (decide_eq_true y)
      omega
     refine ⟨_,rfl,z,rfl,ps,hT,tr,fun ps' tr'=>?_⟩
     refine ⟨fun i m σ2 H2=>H2=upd H T (.tbl ps')∧i≤z.cps.size∧m=z.cps.size - i∧(∃v,σ2=[v])∧(∀j c,j < i→z.cps[j]? = some c→occ c=true),⟨_,rfl,Nat.zero_le _,rfl,⟨_,rfl⟩,fun j c hj=>absurd hj (Nat.not_lt_zero _)⟩,?_⟩
     rintro i m σ2 H2 ⟨rfl,hi,rfl,⟨v,rfl⟩,ok⟩
     by_cases hlt:i < z.cps.size
     ·refine .inr ⟨hlt,?_⟩
      rintro y H3 ⟨rfl,c,hc,rfl⟩
      refine ⟨_,rfl,⟨#[c]⟩,letters,rfl,rfl,_,rfl,?_⟩
      cases ho:occ c with
      | true=>
       rw [if_pos (show (!(Builtin.Str.occurrences letters ⟨#[c]⟩ 0 letters.length 1).isEmpty)=true from ho)]
       refine ⟨z.cps.size - (i + 1),by omega,rfl,hlt,rfl,⟨_,rfl⟩,fun j d hj hd=>?_⟩
       rcases Nat.lt_or_ge j i with h | h
       ·exact ok j d h hd
       ·have e:j=i:=by omega
        subst e
        rw [hc] at hd; cases hd
        exact ho
      | false=>
       rw [if_neg (by rw [show (!(Builtin.Str.occurrences letters ⟨#[c]⟩ 0 letters.length 1).isEmpty)=false from ho]; decide)]
       have e:nameB (.str z)=false:=by
        have a:z.cps.toList.all occ=false:=by
         rw [List.all_eq_false]
         exact ⟨c,by
          have:z.cps.toList[i]? = some c:=by simpa using hc
          exact List.mem_of_getElem? this,by rw [ho]; decide⟩
        simp [nameB,a]
       rw [← e,← show (!(Builtin.Str.occurrences letters ⟨#[c]⟩ 0 letters.length 1).isEmpty)=nameB (.str z) from by rw [e]; exact ho]
       have:=q ps' tr'
       rw [e] at this
       rw [show (!(Builtin.Str.occurrences letters ⟨#[c]⟩ 0 letters.length 1).isEmpty)=false from ho]
       exact this
     ·have e:i=z.cps.size:=by omega
      subst e
      refine .inl ⟨rfl,?_⟩
      have a:z.cps.toList.all occ=true:=by
       rw [List.all_eq_true]
       intro c hc
       obtain ⟨j,hj⟩:=List.getElem?_of_mem hc
       have hj':z.cps[j]? = some c:=by simpa using hj
       exact ok j c (Array.getElem?_eq_some_iff.mp hj').1 hj'
      have n1:nameB (.str z)=true:=by
       simp [nameB,ne,l8]
       simpa using a
      have:=q ps' tr'
      rw [n1] at this
      exact this
  | _=>exact iteT (self rfl)
end
def FrP (H:Hp) (x:V):Prop:=∃a n d,x = .ref a∧H a=some (.tup [.int n,.int d])∧0 < d∧Nat.gcd n.natAbs d.natAbs=1
noncomputable def frB (H:Hp) (x:V):Bool:=@decide (FrP H x) (Classical.propDecidable _)
theorem frB_t {H:Hp} {x:V} (h:FrP H x):frB H x=true:=by unfold frB; exact @decide_eq_true _ (Classical.propDecidable _) h
theorem frB_f {H:Hp} {x:V} (h:¬FrP H x):frB H x=false:=by unfold frB; exact @decide_eq_false _ (Classical.propDecidable _) h
structure ThD (H:Hp) (x:V):Prop where
 th:Th H x
 parts:∀a xs,x = .ref a→H a=some (.tup xs)→∀y∈xs,Th H y
 few:∀a n d,x = .ref a→H a=some (.tup [.int n,.int d])→d.natAbs < big
 str:∀z,x = .str z→z.length≤sizeLine
section
variable {P:Program} {w:World} {K:PySem.W.Frag} {mg:Str→Option Value} {base:Heap}
theorem kq1:PySem.W.kitOne K (.type "int") (.type "tuple")=some false:=by kernel_rfl
theorem kq2:PySem.W.kitOne K (.type "bool") (.type "tuple")=some false:=by kernel_rfl
theorem kq3:PySem.W.kitOne K (.type "NoneType") (.type "tuple")=some false:=by kernel_rfl
theorem kq4:PySem.W.kitOne K (.type "str") (.type "tuple")=some false:=by kernel_rfl
theorem kq5:PySem.W.kitOne K (.type "list") (.type "tuple")=some false:=by kernel_rfl
theorem kq7:PySem.W.kitOne K (.type "dict") (.type "tuple")=some false:=by kernel_rfl
theorem _root_.L2.Th.tyT {H:Hp} {x:V} (h:Th H x):∃t b,TyX K H x t∧PySem.W.kitOne K t (.type "tuple")=some b∧((b=true∧∃a xs,x = .ref a∧H a=some (.tup xs))∨(b=false∧∀a xs,x = .ref a→H a≠some (.tup xs))):=by
 cases h with
 | non=>exact ⟨_,_,.of .non,kq3,.inr ⟨rfl,nofun⟩⟩
 | bl b=>exact ⟨_,_,.of (.bl b),kq2,.inr ⟨rfl,nofun⟩⟩
 | int i=>exact ⟨_,_,.of (.int i),kq1,.inr ⟨rfl,nofun⟩⟩
 | str x=>exact ⟨_,_,.of (.str x),kq4,.inr ⟨rfl,nofun⟩⟩
 | lst h=>exact ⟨_,_,.of (.lst h),kq5,.inr ⟨rfl,fun a xs e z=>by cases e; rw [h] at z; cases z⟩⟩
 | tup h=>exact ⟨_,_,.of (.tup h),kt1,.inl ⟨rfl,_,_,rfl,h⟩⟩
 | dK h=>exact ⟨_,_,.of (.dK h),kq7,.inr ⟨rfl,fun a xs e z=>by cases e; rw [h] at z; cases z⟩⟩
def spIsF:Sp:=fun vs H Q _=>∃x,vs=[x]∧ThD H x∧Q (.bl (frB H x)) H
theorem scIF:FnScope ["thing","top","bottom"] ["thing"] (defScope sIsF):=⟨rfl,rfl,rfl,by decide +kernel,rfl,by decide +kernel,by decide +kernel⟩
theorem two_of {xs:List V} (h:xs.length=2):∃y z,xs=[y,z]:=by
 match xs,h with
 | [y,z],_=>exact ⟨y,z,rfl⟩
theorem ok_isF {f fW fG:Addr} {fd fdW fdG:FuncData} (F:FunG K "is_fraction" "is_fraction" sIsF .none f fd) (B:Bl mg)
  (GW:FnOk P w K mg base (CXE P w) 1 fW fdW ["thing"] spWhole) (mW:mg "is_whole" = some (.ref fW)) (kW:PySem.W.keepIn K (.ref fW)=true) (bW:Binds K fdW ["thing"] [])
  (GG:FnOk P w K mg base (CXE P w) 1 fG fdG ["one","other"] spGcd) (mG:mg "common_divisor" = some (.ref fG)) (kG:PySem.W.keepIn K (.ref fG)=true) (bG:Binds K fdG ["one","other"] []) :
  FnOk P w K mg base (CXE P w) 2 f fd ["thing"] spIsF:=by
 refine F.zokN scIF (fun vs H Q E h=>?_) (fun cdv A outer s H vs Q E hr h=>?_)
 ·obtain ⟨x,rfl,_⟩:=h
  rfl
 ·obtain ⟨x,rfl,hx,q⟩:=h
  refine ⟨_,zpss_cons (zps_if (zpw_or (zpt_not (zpt_val (zpe_callB call_isi (by rfl) B.isi boot_isi (zpac_n (zpv 0) (zpac_n (zpe_bltn (by rfl) B.tuple boot_tuple (v:=.ty "tuple") rfl) zpa_nil)))))
    (zpw_or1 (zpt_cmpR op_ne (zpe_callB call_len_seq (by rfl) B.len PySem.boot_len (zpac_n (zpv 0) zpa_nil)) zpe_int (nomark _)))).pt (zpss_one (zps_ret zpe_bl)) zpss_nil)
   (zpss_cons (zps_asg (zpv 0) (zpg_tup rfl (zpgs_cons (zpg_name (i:=1) scIF.nd rfl (Or.inl rfl)) (zpgs_cons (zpg_name (i:=2) scIF.nd rfl (Or.inl rfl)) zpgs_nil))))
   (zpss_cons (zps_if (zpw_or (zpt_not (zpt_val (zpe_call GW hr (by rfl) mW kW bW .nil passE0 (zpac_n (zpv 1) zpa_nil)))) (zpw_or (zpt_not (zpt_val (zpe_call GW hr (by rfl) mW kW bW .nil passE0 (zpac_n (zpv 2) zpa_nil))))
    (zpw_or1 (zpt_cmpR op_lt (zpv 2) zpe_int (nomark _))))).pt (zpss_one (zps_ret zpe_bl)) zpss_nil)
   (zpss_one (zps_ret (zpe_cmpR op_eq (zpe_call GG hr (by rfl) mG kG bG .nil passE0 (zpac_n (zpv 1) (zpac_n (zpv 2) zpa_nil))) zpe_int (nomark _)))))),?_⟩
  obtain ⟨t,b,ty,e1,hb⟩:=hx.th.tyT (K:=K)
  refine ⟨_,rfl,_,_,t,b,rfl,ty,.inl ⟨_,rfl,e1⟩,_,rfl,?_⟩
  rcases hb with ⟨rfl,a,xs,rfl,ha⟩ | ⟨rfl,no⟩
  ·refine iteF ⟨_,rfl,a,xs,rfl,.inr (SqT.of ha),rfl,_,rfl,?_⟩
   refine ite2 (fun e=>?_) (fun e=>?_)
   ·rw [frB_f (by
     rintro ⟨a',n,d,e',h',_⟩
     cases e'
     rw [ha] at h'; cases h'
     simp at e)] at q
    exact q
   ·have l2:xs.length=2:=by
     by_cases z:xs.length=2
     ·exact z
     ·exfalso
      apply e
      simp
      omega
    obtain ⟨y,z,rfl⟩:=two_of l2
    have ty:=hx.parts a _ rfl ha y (by simp)
    have tz:=hx.parts a _ rfl ha z (by simp)
    refine ⟨_,rfl,a,_,rfl,SqT.of ha,rfl,_,_,rfl,_,_,rfl,rfl,?_⟩
    refine ⟨_,rfl,y,rfl,ty,_,rfl,?_⟩
    cases hy:isW y with
    | false=>
     refine iteT (iteT ?_)
     rw [frB_f (by
      rintro ⟨a',n,d,e',h',_⟩
      cases e'
      rw [ha] at h'; cases h'
      cases hy)] at q
     exact q
    | true=>
     refine iteF ⟨_,rfl,z,rfl,tz,_,rfl,?_⟩
     cases hz:isW z with
     | false=>
      refine iteT (iteT ?_)
      rw [frB_f (by
       rintro ⟨a',n,d,e',h',_⟩
       cases e'
       rw [ha] at h'; cases h'
       cases hz)] at q
      exact q
     | true=>
      obtain ⟨n,rfl⟩:∃n,y = .int n:=by cases y <;> first | exact ⟨_,rfl⟩ | cases hy
      obtain ⟨d,rfl⟩:∃d,z = .int d:=by cases z <;> first | exact ⟨_,rfl⟩ | cases hz
      refine iteF ⟨_,rfl,_,_,rfl,rfl,_,rfl,?_⟩
      refine ite2 (fun e1=>?_) (fun e1=>?_)
      ·have d1:d < 1:=of_decide_eq_true e1
       rw [frB_f (by
        rintro ⟨a',n',d',e',h',p,_⟩
        cases e'
        rw [ha] at h'; cases h'
        omega)] at q
       exact q
      ·have d1:¬d < 1:=fun z=>e1 (decide_eq_true z)
       refine ⟨_,rfl,_,rfl,n,d,rfl,rfl,?_⟩
       by_cases g1:Nat.gcd n.natAbs d.natAbs=1
       ·rw [frB_t ⟨a,n,d,rfl,ha,by omega,g1⟩] at q
        rw [show decide (V.int (gd n d)=V.int 1)=true from decide_eq_true (by unfold gd; rw [g1]; rfl)]
        exact q
       ·rw [frB_f (by
         rintro ⟨a',n',d',e',h',p,g⟩
         cases e'
         rw [ha] at h'; cases h'
         exact g1 g)] at q
        rw [show decide (V.int (gd n d)=V.int 1)=false from decide_eq_false (by
         unfold gd
         intro z
         injection z with z
         omega)]
        exact q
  ·refine iteT (iteT ?_)
   rw [frB_f (by
    rintro ⟨a,n,d,e,h,_⟩
    exact no a _ e h)] at q
   exact q
end
def Kp (H H':Hp):Prop:=∀b o,H b=some o→(∀ps,o≠.tbl ps)→H' b=some o
theorem Kp.refl {H:Hp}:Kp H H:=fun _ _ h _=>h
theorem Kp.trans {H H1 H2:Hp} (a:Kp H H1) (b:Kp H1 H2):Kp H H2:=fun c o h n=>b c o (a c o h n) n
theorem Kp.same {H H':Hp} (s:Same H H'):Kp H H':=fun b o h _=>s b o h
theorem Kp.new {H:Hp} {p:Addr} {o:HO} (h:H p=none):Kp H (upd H p o):=Kp.same (same_upd h)
theorem Kp.lst {H H':Hp} {a:Addr} {xs:List V} (k:Kp H H') (h:H a=some (.lst xs)):H' a=some (.lst xs):=k a _ h nofun
theorem Kp.tup {H H':Hp} {a:Addr} {xs:List V} (k:Kp H H') (h:H a=some (.tup xs)):H' a=some (.tup xs):=k a _ h nofun
def Tab (T:Addr) (H:Hp):Prop:=∃ps,H T=some (.tbl ps)∧TriplesOk ps.toList
theorem Kp.tab {H:Hp} {T:Addr} {ps':Array Value} (h:Tab T H):Kp H (upd H T (.tbl ps')):=fun b o e n=>by
 obtain ⟨ps,hp,_⟩:=h
 rw [upd_ne (fun z=>by rw [z,hp] at e; cases e; exact n _ rfl)]; exact e
theorem Tab.new {H:Hp} {T p:Addr} {o:HO} (h:Tab T H) (n:H p=none):Tab T (upd H p o):=by
 obtain ⟨ps,hp,t⟩:=h
 exact ⟨ps,by rw [upd_ne (ne_of_none hp n)]; exact hp,t⟩
theorem Tab.put {H:Hp} {T T':Addr} {ps':Array Value} (h:Tab T H) (t:TriplesOk ps'.toList):Tab T (upd H T' (.tbl ps')):=by
 obtain ⟨ps,hp,t0⟩:=h
 by_cases e:T=T'
 ·subst e; exact ⟨ps',upd_same,t⟩
 ·exact ⟨ps,by rw [upd_ne e]; exact hp,t0⟩
theorem Tab.set {H:Hp} {T p:Addr} {o o':HO} (h:Tab T H) (n:H p=some o') (no:∀ps,o'≠.tbl ps):Tab T (upd H p o):=by
 obtain ⟨ps,hp,t⟩:=h
 exact ⟨ps,by rw [upd_ne (fun z=>by rw [z,n] at hp; cases hp; exact no _ rfl)]; exact hp,t⟩
theorem Tab.same {H H':Hp} {T:Addr} (h:Tab T H) (s:Same H H'):Tab T H':=by
 obtain ⟨ps,hp,t⟩:=h
 exact ⟨ps,s _ _ hp,t⟩
structure PrA (H:Hp) (x:V):Prop where
 ex:∃a n d,x = .ref a∧H a=some (.tup [.int n,.int d])∧0 < n∧0 < d∧Nat.gcd n.natAbs d.natAbs=1∧n≤1000000000∧d≤1000000000
theorem PrA.kp {H H':Hp} {x:V} (h:PrA H x) (k:Kp H H'):PrA H' x:=by
 obtain ⟨a,n,d,e,ha,r⟩:=h.ex
 exact ⟨a,n,d,e,k.tup ha,r⟩
theorem PrA.ext {H H':Hp} {p:Addr} {x:V} (h:PrA H x) (hp:∃xs,H p=some (.lst xs)) (k:Ext p H H'):PrA H' x:=by
 obtain ⟨a,n,d,e,ha,r⟩:=h.ex
 obtain ⟨xs,hp⟩:=hp
 exact ⟨a,n,d,e,k _ _ (fun z=>by rw [z,hp] at ha; cases ha) ha,r⟩
theorem small_big {d:Int} (h0:0 < d) (h:d≤1000000000):d.natAbs < big:=Nat.lt_of_le_of_lt (show d.natAbs≤1000000000 by omega) (by decide +kernel)
theorem PrA.thd {H:Hp} {x:V} (h:PrA H x):ThD H x:=by
 obtain ⟨a,n,d,rfl,ha,n0,d0,g,n1,d1⟩:=h.ex
 refine ⟨.tup ha,fun b xs e hb y hy=>?_,fun b n' d' e hb=>?_,nofun⟩
 ·cases e
  rw [ha] at hb; cases hb
  rcases List.mem_cons.mp hy with rfl | hy
  ·exact .int _
  ·rw [List.mem_singleton.mp hy]; exact .int _
 ·cases e
  rw [ha] at hb; cases hb
  exact small_big d0 d1
section
variable {P:Program} {w:World} {K:PySem.W.Frag} {mg:Str→Option Value} {base:Heap}
def inB:V→Int→Int→Bool
 | .int i,lo,hi=>decide (lo≤i) && decide (i≤hi)
 | _,_,_=>false
def spWithin:Sp:=fun vs H Q _=>∃(x:V) (lo hi:Int),vs=[x,.int lo,.int hi]∧Th H x∧Q (.bl (inB x lo hi)) H
theorem scWi:FnScope ["thing","least","most"] ["thing","least","most"] (defScope sWithin):=⟨rfl,rfl,rfl,by decide +kernel,rfl,by decide +kernel,by decide +kernel⟩
theorem ok_within {f fW:Addr} {fd fdW:FuncData} (F:FunG K "is_whole_within" "is_whole_within" sWithin .none f fd)
  (GW:FnOk P w K mg base (CXE P w) 1 fW fdW ["thing"] spWhole) (mW:mg "is_whole" = some (.ref fW)) (kW:PySem.W.keepIn K (.ref fW)=true) (bW:Binds K fdW ["thing"] []) :
  FnOk P w K mg base (CXE P w) 2 f fd ["thing","least","most"] spWithin:=by
 refine F.zokN scWi (fun vs H Q E h=>?_) (fun cdv A outer s H vs Q E hr h=>?_)
 ·obtain ⟨x,lo,hi,rfl,_⟩:=h
  rfl
 ·obtain ⟨x,lo,hi,rfl,hx,q⟩:=h
  refine ⟨_,zpss_one (zps_ret (zpe_and (zpe_call GW hr (by rfl) mW kW bW .nil passE0 (zpac_n (zpv 0) zpa_nil)) (zpe_and (zpe_cmpR op_le (zpv 1) (zpv 0) (nomark _)) (zpe_one (zpe_cmpR op_le (zpv 0) (zpv 2) (nomark _)))))),?_⟩
  refine ⟨_,rfl,x,rfl,hx,_,rfl,?_⟩
  cases x with
  | int i=>
   refine iteT ⟨_,rfl,_,rfl,_,_,rfl,rfl,_,rfl,?_⟩
   refine ite2 (fun e=>?_) (fun e=>?_)
   ·refine ⟨_,rfl,_,rfl,_,_,rfl,rfl,?_⟩
    have:inB (.int i) lo hi=decide (i≤hi):=by simp [inB,of_decide_eq_true e]
    rw [this] at q
    exact q
   ·have:inB (.int i) lo hi=false:=by
     have:decide (lo≤i)=false:=by simpa using e
     simp [inB,this]
    rw [this] at q
    exact q
  | _=>exact iteF q
def sg1 (c:Nat):Str:=⟨#[c]⟩
structure Row (H:Hp) (x:V) (c:Nat):Prop where
 ex:∃a p l,x = .ref a∧H a=some (.tup [.str (sg1 c),p,l])∧PrA H p∧(l = .non∨PrA H l)
 oc:occ c=true
theorem Row.kp {H H':Hp} {x:V} {c:Nat} (h:Row H x c) (k:Kp H H'):Row H' x c:=by
 obtain ⟨a,p,l,e,ha,hp,hl⟩:=h.ex
 exact ⟨⟨a,p,l,e,k.tup ha,hp.kp k,hl.imp id fun z=>z.kp k⟩,h.oc⟩
theorem name1 {c:Nat} (h:occ c=true):nameB (.str (sg1 c))=true:=by
 have:sg1 c≠"":=fun z=>by
  have:(sg1 c).length=("" : Str).length:=by rw [z]
  exact absurd this (by show (1:Nat)≠0; decide)
 have l:(sg1 c).length≤8:=by show (1:Nat)≤8; decide
 have a:(sg1 c).cps.toList.all occ=true:=by
  show [c].all occ=true
  simp [h]
 simp only [nameB,decide_eq_true this,decide_eq_true l,a,Bool.and_self]
end
end G1
namespace L2
open PySem
theorem boot_list:bootBuiltins "list" = some (.type "list"):=by decide +kernel
theorem ix_tupK {X:Cx} (K:PySem.W.Frag) (h:X.K=K):IxR X (rIxT K):=h ▸ ix_tup
end L2
namespace G1
open PySem L2 GM
theorem Kp.upd_new {H H1 H2:Hp} {l:Addr} {o:HO} (k1:Kp H H1) (n:H1 l=none) (k2:Kp H H2):Kp H (upd H2 l o):=fun b u h hn=>by
 rw [upd_ne (ne_of_none (k1 b u h hn) n)]; exact k2 b u h hn
structure Rows (H:Hp) (xs:List V) (cs:List Nat):Prop where
 len:xs.length=cs.length
 row:∀(i:Nat) (x:V) (c:Nat),xs[i]? = some x→cs[i]? = some c→Row H x c
theorem Rows.kp {H H':Hp} {xs:List V} {cs:List Nat} (h:Rows H xs cs) (k:Kp H H'):Rows H' xs cs:=⟨h.len,fun i x c e1 e2=>(h.row i x c e1 e2).kp k⟩
theorem Rows.at {H:Hp} {xs:List V} {cs:List Nat} {i:Nat} {x:V} (h:Rows H xs cs) (e:xs[i]? = some x):∃c,cs[i]? = some c∧Row H x c:=by
 have hi:i < cs.length:=by rw [← h.len]; exact (List.getElem?_eq_some_iff.mp e).1
 exact ⟨cs[i],List.getElem?_eq_getElem hi,h.row i x _ e (List.getElem?_eq_getElem hi)⟩
theorem sg1_inj {a b:Nat} (h:sg1 a=sg1 b):a=b:=by
 unfold sg1 at h
 injection h with h
 injection h with h
 injection h
section
variable {P:Program} {w:World} {K:PySem.W.Frag} {mg:Str→Option Value} {base:Heap}
theorem scSi:FnScope ["thing"] ["thing"] (defScope sSigns):=⟨rfl,rfl,rfl,by decide +kernel,rfl,by decide +kernel,by decide +kernel⟩
end
def txs (ts:List Str):List V:=ts.map V.str
theorem txs_flat (ts:List Str):(txs ts).all flatV=true:=by
 unfold txs
 rw [List.all_map]
 exact List.all_eq_true.mpr fun _ _=>rfl
theorem inV_txs (t:Str) (ts:List Str):inV (.str t) (txs ts)=decide (t∈ts):=by
 unfold inV txs
 rw [List.any_map,Bool.eq_iff_iff,List.any_eq_true,decide_eq_true_iff]
 constructor
 ·rintro ⟨y,hy,e⟩
  have:(y == t)=true:=e
  rw [← eq_of_beq this]; exact hy
 ·intro h
  exact ⟨t,h,by show (t == t)=true; exact beq_self_eq_true t⟩
def sgs (cs:List Nat):List Str:=cs.map sg1
section
variable {P:Program} {w:World} {K:PySem.W.Frag} {mg:Str→Option Value} {base:Heap}
theorem take_freshT {ts:List Str} (h:ts.Nodup) {i:Nat} {t:Str} (e:ts[i]? = some t):t∉ts.take i:=fun m=>by
 obtain ⟨j,hj⟩:=List.getElem?_of_mem m
 have hj':j < i:=by
  have:=(List.getElem?_eq_some_iff.mp hj).1
  rw [List.length_take] at this; omega
 rw [List.getElem?_take_of_lt hj'] at hj
 obtain ⟨hi1,hi2⟩:=List.getElem?_eq_some_iff.mp e
 obtain ⟨hj1,hj2⟩:=List.getElem?_eq_some_iff.mp hj
 have:=(List.getElem_inj (h₀:=hj1) (h₁:=hi1) h).mp (by rw [hi2,hj2])
 omega
end
end G1
namespace L2
theorem zpi_listK {X:Cx} {tg l:PySem.Expr} {tl:TE} (K:PySem.W.Frag) (h:X.K=K) (hl:SPE X l tl):SPI X tg l (iList K tl):=h ▸ zpi_list hl
end L2
namespace G1
open PySem L2 GM
def prs (ks:List Str):List Str:=ks.flatMap fun a=>ks.map fun b=>a ++ b
structure Tg (H:Hp) (t:Addr) (cs:List Nat) (fs ps:List Str) (lg:Int):Prop where
 ex:∃S F Pp xs,H t=some (.tup [.ref S,.ref F,.ref Pp,.int lg])∧H S=some (.lst xs)∧Rows H xs cs∧H F=some (.lst (txs fs))∧H Pp=some (.lst (txs ps))
 nd:cs.Nodup
 c2:2≤cs.length
 c6:cs.length≤6
 fnd:fs.Nodup
 fsub:∀f∈fs,f∈sgs cs
 pnd:ps.Nodup
 psub:∀p∈ps,p∈prs (sgs cs)
 l1:1≤lg
 l8:lg≤8
theorem Tg.kp {H H':Hp} {t:Addr} {cs:List Nat} {fs ps:List Str} {lg:Int} (h:Tg H t cs fs ps lg) (k:Kp H H'):Tg H' t cs fs ps lg:=by
 obtain ⟨S,F,Pp,xs,h1,h2,h3,h4,h5⟩:=h.ex
 exact {h with ex:=⟨S,F,Pp,xs,k.tup h1,k.lst h2,h3.kp k,k.lst h4,k.lst h5⟩}
theorem nodup_le:∀{fs ks:List Str},fs.Nodup→(∀f∈fs,f∈ks)→fs.length≤ks.length
 | [],_,_,_=>Nat.zero_le _
 | f :: fs,ks,h,s=>by
  have hf:=s f List.mem_cons_self
  obtain ⟨a,b,rfl⟩:=List.append_of_mem hf
  have:=nodup_le (fs:=fs) (ks:=a ++ b) (List.nodup_cons.mp h).2 fun g hg=>by
   have:=s g (List.mem_cons_of_mem _ hg)
   rcases List.mem_append.mp this with z | z
   ·exact List.mem_append_left _ z
   ·rcases List.mem_cons.mp z with rfl | z
    ·exact absurd hg (List.nodup_cons.mp h).1
    ·exact List.mem_append_right _ z
  simp only [List.length_append,List.length_cons] at this ⊢
  omega
theorem flat_len (ks:List Str) (f:Str→List Str) (n:Nat) (h:∀a,(f a).length=n):(ks.flatMap f).length=ks.length * n:=by
 induction ks with
 | nil=>simp
 | cons k ks ih=>rw [List.flatMap_cons,List.length_append,ih,h,List.length_cons,Nat.succ_mul,Nat.add_comm]
theorem prs_len (ks:List Str):(prs ks).length=ks.length * ks.length:=flat_len ks _ _ fun a=>by rw [List.length_map]
theorem prs_snoc {ks:List Str} {i:Nat} {a:Str} (e:ks[i]? = some a):(ks.take (i + 1)).flatMap (fun a=>ks.map fun b=>a ++ b)=(ks.take i).flatMap (fun a=>ks.map fun b=>a ++ b) ++ ks.map fun b=>a ++ b:=by
 rw [List.take_add_one,e,List.flatMap_append]
 simp
section
variable {P:Program} {w:World} {K:PySem.W.Frag} {mg:Str→Option Value} {base:Heap}
end
theorem sm2001:∀k:Nat,k≤2001→k < big:=fun k hk=>Nat.lt_of_le_of_lt hk (by decide +kernel)
theorem Src.lst {H:Hp} {p:Addr} (s:Src H p):∃xs,H p=some (.lst xs):=by
 obtain ⟨n,d,e,_⟩:=s.ex
 exact ⟨_,e⟩
theorem Src.same {H H':Hp} {p:Addr} (h:Src H p) (s:Same H H'):Src H' p:=by
 obtain ⟨n,d,e,r⟩:=h.ex
 exact ⟨n,d,s _ _ e,r⟩
theorem PrA.same {H H':Hp} {x:V} (h:PrA H x) (s:Same H H'):PrA H' x:=h.kp (Kp.same s)
theorem PrA.src {H H':Hp} {p:Addr} {x:V} (h:PrA H x) (sr:Src H p) (k:Ext p H H'):PrA H' x:=h.ext sr.lst k
section
variable {P:Program} {w:World} {K:PySem.W.Frag} {mg:Str→Option Value} {base:Heap}
def spCell (K:PySem.W.Frag):Sp:=fun vs H Q _=>∃(a:Addr) (ns:List Int) (k:Int),vs=[.ref a,.int k]∧SqL K H a (ns.map V.int)∧0≤k∧∀z:Int,Q (.int z) H
theorem scCe:FnScope ["_law_script","_law_k"] ["_law_script","_law_k"] (defScope sCell):=⟨rfl,rfl,rfl,by decide +kernel,rfl,by decide +kernel,by decide +kernel⟩
theorem ok_cell {f:Addr} {fd:FuncData} (F:FunG K "_law_cell" "_law_cell" sCell .none f fd) (B:Bl mg):FnOk P w K mg base (CXE P w) 1 f fd ["_law_script","_law_k"] (spCell K):=by
 refine F.zokN scCe (fun vs H Q E h=>?_) (fun cdv A outer s H vs Q E hr h=>?_)
 ·obtain ⟨a,ns,k,rfl,_⟩:=h
  rfl
 ·obtain ⟨a,ns,k,rfl,ha,k0,q⟩:=h
  refine ⟨_,zpss_cons (zps_if (zpt_cmpR op_lt (zpv 1) (zpe_callB call_len_seq (by rfl) B.len PySem.boot_len (zpac_n (zpv 0) zpa_nil)) (nomark _)) (zpss_one (zps_ret (zpe_ix ix_list (zpv 0) (zpv 1) (fun _ _=>rfl)))) zpss_nil)
   (zpss_one (zps_ret zpe_int)),?_⟩
  refine ⟨_,rfl,_,rfl,a,_,rfl,.inl ha,_,_,rfl,rfl,_,rfl,?_⟩
  refine ite2 (fun e=>?_) (fun _=>q 0)
  have lt:=of_decide_eq_true e
  obtain ⟨n,rfl⟩:=Int.eq_ofNat_of_zero_le k0
  rw [List.length_map] at lt
  have hn:n < ns.length:=by omega
  refine ⟨_,rfl,_,rfl,a,_,_,_,rfl,rfl,ha,atI_nat (v:=.int ns[n]) (by simp [hn]),q _⟩
def spPrice:Sp:=fun vs H Q _=>∃p:Addr,vs=[.ref p]∧Src H p∧∀x H',PrA H' x→Src H' p→Ext p H H'→Q x H'
theorem scPr:FnScope ["_law_source_here","_law_way","_law_wide","_law_top"] ["_law_source_here"] (defScope sPrice):=⟨rfl,rfl,rfl,by decide +kernel,rfl,by decide +kernel,by decide +kernel⟩
theorem ok_price {f fD fL:Addr} {fd fdD fdL:FuncData} (F:FunG K "_law_price" "_law_price" sPrice .none f fd)
  (GD:FnOk P w K mg base (CXE P w) 1 fD fdD ["_law_source_here","_law_many"] spDraw) (mD:mg "_law_draw" = some (.ref fD)) (kD:PySem.W.keepIn K (.ref fD)=true) (bD:Binds K fdD ["_law_source_here","_law_many"] [])
  (GL:FnOk P w K mg base (CXE P w) 1 fL fdL ["_law_top","_law_bottom"] spLow) (mL:mg "_law_lowest" = some (.ref fL)) (kL:PySem.W.keepIn K (.ref fL)=true) (bL:Binds K fdL ["_law_top","_law_bottom"] []) :
  FnOk P w K mg base (CXE P w) 2 f fd ["_law_source_here"] spPrice:=by
 refine F.zokN scPr (fun vs H Q E h=>?_) (fun cdv A outer s H vs Q E hr h=>?_)
 ·obtain ⟨p,rfl,_⟩:=h
  rfl
 ·obtain ⟨p,rfl,sr,q⟩:=h
  refine ⟨_,zpss_cons (zps_set (i:=1) scPr.nd rfl (Or.inl rfl) (zpe_call GD hr (by rfl) mD kD bD .nil passE0 (zpac_n (zpv 0) (zpac_c zpe_int zpa_nil))))
   (zpss_cons (zps_set (i:=2) scPr.nd rfl (Or.inl rfl) (zpe_ix ix_list (zpe_lst (zpac_c zpe_int (zpac_c zpe_int (zpac_c zpe_int (zpac_c zpe_int (zpac_b (zpe_op op_mul zpe_int (zpe_op op_pow zpe_int zpe_int)) zpa_nil)))))) (zpv 1) (fun _ _=>rfl)))
   (zpss_cons (zps_set (i:=3) scPr.nd rfl (Or.inl rfl) (zpe_op op_add zpe_int (zpe_call GD hr (by rfl) mD kD bD .nil passE0 (zpac_n (zpv 0) (zpac_n (zpv 2) zpa_nil)))))
   (zpss_cons (zps_if (zpt_cmpR op_lt (zpv 1) zpe_int (nomark _)) (zpss_one (zps_ret (zpe_tup (zpac_n (zpv 3) (zpac_c zpe_int zpa_nil))))) zpss_nil)
   (zpss_one (zps_ret (zpe_call GL hr (by rfl) mL kL bL .nil passE0 (zpac_n (zpv 3) (zpac_b (zpe_op op_add zpe_int (zpe_call GD hr (by rfl) mD kD bD .nil passE0 (zpac_n (zpv 0) (zpac_n (zpv 2) zpa_nil)))) zpa_nil)))))))),?_⟩
  refine ⟨_,rfl,p,5,rfl,sr,by decide,sm2001 5 (by decide),fun wy H1 w0 w1 sr1 x1=>?_⟩
  refine ⟨_,_,rfl,rfl,⟨by decide,by decide,by decide⟩,_,_,rfl,rfl,.inl ⟨by decide,by decide⟩,by show 5≤sizeLine; decide,fun l hl=>?_⟩
  have ee:(9:Int) * 10 ^ (8:Int).toNat=900000000:=by decide
  have sr2:=sr1.new (o:=.lst [.int 5,.int 5,.int 9,.int 9,.int (9 * 10 ^ (8:Int).toNat)]) hl
  have E2:Ext p H _:=(Ext.of_eq x1).trans (Ext.new (o:=.lst [.int 5,.int 5,.int 9,.int 9,.int (9 * 10 ^ (8:Int).toNat)]) hl)
  obtain ⟨wd,hw,wd0,wd1⟩:∃wd:Int,atI [V.int 5,.int 5,.int 9,.int 9,.int (9 * 10 ^ (8:Int).toNat)] wy=some (V.int wd)∧1≤wd∧wd≤900000000:=by
   have five:wy=0∨wy=1∨wy=2∨wy=3∨wy=4:=by omega
   rcases five with rfl | rfl | rfl | rfl | rfl
   ·exact ⟨5,rfl,by decide,by decide⟩
   ·exact ⟨5,rfl,by decide,by decide⟩
   ·exact ⟨9,rfl,by decide,by decide⟩
   ·exact ⟨9,rfl,by decide,by decide⟩
   ·exact ⟨_,rfl,by decide,by decide⟩
  refine ⟨_,rfl,l,_,_,_,rfl,rfl,SqL.of upd_same,hw,?_⟩
  have wb:wd.natAbs < big:=small_big (by omega) (by omega)
  refine ⟨_,rfl,_,rfl,p,wd,rfl,sr2,by omega,wb,fun d H3 d0 d1 sr3 x3=>⟨_,_,rfl,rfl,?_⟩⟩
  have E3:=E2.trans (.of_eq x3)
  refine ⟨_,rfl,_,_,rfl,rfl,_,rfl,ite2 (fun _=>?_) (fun _=>?_)⟩
  ·refine ⟨_,rfl,by show 2≤sizeLine; decide,fun t ht=>?_⟩
   exact q _ _ ⟨t,1 + d,1,rfl,upd_same,by omega,by decide,by simp,by omega,by decide⟩ (sr3.new ht) (E3.trans (Ext.new ht))
  ·refine ⟨_,rfl,_,rfl,_,rfl,p,wd,rfl,sr3,by omega,wb,fun e H4 e0 e1 sr4 x4=>⟨_,_,rfl,rfl,?_⟩⟩
   refine ⟨1 + d,1 + e,rfl,by omega,small_big (by omega) (by omega),fun t c' d' ht fr _=>?_⟩
   obtain ⟨g,g0,ga,gb⟩:=fr.g
   have gp:0 < g:=by
    rcases Int.lt_trichotomy g 0 with z | z | z
    ·exfalso
     have:=Int.mul_neg_of_neg_of_pos z fr.pos
     omega
    ·exact absurd z g0
    ·exact z
   have cp:0 < c':=by
    rcases Int.lt_trichotomy c' 0 with z | z | z
    ·exfalso
     have:=Int.mul_neg_of_pos_of_neg gp z
     omega
    ·exfalso
     rw [z,Int.mul_zero] at ga; omega
    ·exact z
   have t1:=fr.top
   have t2:=fr.bot
   have t3:=fr.pos
   exact q _ _ ⟨t,c',d',rfl,upd_same,cp,t3,fr.low,by omega,by omega⟩ (sr4.new ht) ((E3.trans (.of_eq x4)).trans (Ext.new ht))
end
theorem Row.src {H H':Hp} {p:Addr} {x:V} {c:Nat} (h:Row H x c) (sr:Src H p) (k:Ext p H H'):Row H' x c:=by
 obtain ⟨a,q,l,e,ha,hq,hl⟩:=h.ex
 obtain ⟨xs,hp⟩:=sr.lst
 exact ⟨⟨a,q,l,e,k _ _ (fun z=>by rw [z,hp] at ha; cases ha) ha,hq.src sr k,hl.imp id fun z=>z.src sr k⟩,h.oc⟩
theorem Rows.src {H H':Hp} {p:Addr} {xs:List V} {cs:List Nat} (h:Rows H xs cs) (sr:Src H p) (k:Ext p H H'):Rows H' xs cs:=⟨h.len,fun i x c e1 e2=>(h.row i x c e1 e2).src sr k⟩
theorem Rows.same {H H':Hp} {xs:List V} {cs:List Nat} (h:Rows H xs cs) (s:Same H H'):Rows H' xs cs:=h.kp (Kp.same s)
theorem Row.put {H:Hp} {L:Addr} {x:V} {c:Nat} {ys zs:List V} (h:Row H x c) (hL:H L=some (.lst ys)):Row (upd H L (.lst zs)) x c:=by
 have k:∀{a:Addr} {us:List V},H a=some (.tup us)→upd H L (.lst zs) a=some (.tup us):=fun {a us} e=>by
  rw [upd_ne (fun z=>by rw [z,hL] at e; cases e)]; exact e
 have pr:∀{x:V},PrA H x→PrA (upd H L (.lst zs)) x:=fun {x} h=>by
  obtain ⟨a,n,d,e,ha,r⟩:=h.ex
  exact ⟨a,n,d,e,k ha,r⟩
 obtain ⟨a,q,l,e,ha,hq,hl⟩:=h.ex
 exact ⟨⟨a,q,l,e,k ha,pr hq,hl.imp id pr⟩,h.oc⟩
theorem Rows.put {H:Hp} {L:Addr} {xs:List V} {cs:List Nat} {ys zs:List V} (h:Rows H xs cs) (hL:H L=some (.lst ys)):Rows (upd H L (.lst zs)) xs cs:=⟨h.len,fun i x c e1 e2=>(h.row i x c e1 e2).put hL⟩
theorem Rows.snoc {H:Hp} {xs:List V} {cs:List Nat} {x:V} {c:Nat} (h:Rows H xs cs) (r:Row H x c):Rows H (xs ++ [x]) (cs ++ [c]):=by
 refine ⟨by rw [List.length_append,List.length_append,h.len]; rfl,fun i y d e1 e2=>?_⟩
 by_cases hi:i < xs.length
 ·rw [List.getElem?_append_left hi] at e1
  rw [List.getElem?_append_left (by rw [← h.len]; exact hi)] at e2
  exact h.row i y d e1 e2
 ·rw [List.getElem?_append_right (by omega)] at e1
  rw [List.getElem?_append_right (by rw [← h.len]; omega),← h.len] at e2
  have z:i - xs.length=0:=by
   have:=(List.getElem?_eq_some_iff.mp e1).1
   simp at this; omega
  rw [z] at e1 e2
  cases e1
  cases e2
  exact r
def cod (st sp:Int) (j:Nat):Nat:=97 + ((st + sp * j) % 26).toNat
def cods (st sp:Int) (k:Nat):List Nat:=(List.range k).map (cod st sp)
theorem cods_succ (st sp:Int) (k:Nat):cods st sp (k + 1)=cods st sp k ++ [cod st sp k]:=by
 unfold cods
 rw [List.range_succ,List.map_append]; rfl
theorem cods_len (st sp:Int) (k:Nat):(cods st sp k).length=k:=by unfold cods; simp
theorem cod_inj {st sp:Int} (hs:sp=1∨sp=3∨sp=7∨sp=25) {i j:Nat} (hi:i < 6) (hj:j < 6) (h:cod st sp i=cod st sp j):i=j:=by
 unfold cod at h
 have e:(st + sp * i) % 26=(st + sp * j) % 26:=by
  have a:=Int.emod_nonneg (st + sp * i) (show (26:Int)≠0 by decide)
  have b:=Int.emod_nonneg (st + sp * j) (show (26:Int)≠0 by decide)
  omega
 rcases hs with rfl | rfl | rfl | rfl <;> omega
theorem cods_nd {st sp:Int} (hs:sp=1∨sp=3∨sp=7∨sp=25) {k:Nat} (hk:k≤6):(cods st sp k).Nodup:=by
 unfold cods
 unfold List.Nodup
 rw [List.pairwise_map]
 refine List.Pairwise.imp_of_mem (fun {a b} ha hb ne e=>?_) (List.nodup_range (n:=k))
 have ha':=List.mem_range.mp ha
 have hb':=List.mem_range.mp hb
 exact ne (cod_inj hs (by omega) (by omega) e)
theorem letters_at:∀n:Nat,n < 26→letters.cps.toList[n]? = some (97 + n):=by decide +kernel
theorem letters_occ:∀n:Nat,n < 26→occ (97 + n)=true:=by decide +kernel
section
variable {P:Program} {w:World} {K:PySem.W.Frag} {mg:Str→Option Value} {base:Heap}
def spLSigns:Sp:=fun vs H Q _=>∃(p:Addr) (many:Nat),vs=[.ref p,.int many]∧Src H p∧many≤6∧∀L xs cs H',H L=none→L≠p→H' L=some (.lst xs)→Rows H' xs cs→cs.Nodup→cs.length=many→Src H' p→Ext p H H'→Q (.ref L) H'
theorem scLS:FnScope ["_law_source_here","_law_many","_law_letters","_law_start","_law_step","_law_signs_here","_law_k","_law_price_here","_law_last","_law_way"] ["_law_source_here","_law_many"] (defScope sLSigns):=⟨rfl,rfl,rfl,by decide +kernel,rfl,by decide +kernel,by decide +kernel⟩
theorem ok_lsigns {f fD fP:Addr} {fd fdD fdP:FuncData} (F:FunG K "_law_signs" "_law_signs" sLSigns .none f fd) (B:Bl mg)
  (GD:FnOk P w K mg base (CXE P w) 1 fD fdD ["_law_source_here","_law_many"] spDraw) (mD:mg "_law_draw" = some (.ref fD)) (kD:PySem.W.keepIn K (.ref fD)=true) (bD:Binds K fdD ["_law_source_here","_law_many"] [])
  (GP:FnOk P w K mg base (CXE P w) 2 fP fdP ["_law_source_here"] spPrice) (mP:mg "_law_price" = some (.ref fP)) (kP:PySem.W.keepIn K (.ref fP)=true) (bP:Binds K fdP ["_law_source_here"] []) :
  FnOk P w K mg base (CXE P w) 3 f fd ["_law_source_here","_law_many"] spLSigns:=by
 refine F.zokN scLS (fun vs H Q E h=>?_) (fun cdv A outer s H vs Q E hr h=>?_)
 ·obtain ⟨p,many,rfl,_⟩:=h
  rfl
 ·obtain ⟨p,many,rfl,sr,m6,q⟩:=h
  have hr1:Room 1 _:=hr.mono (by decide)
  refine ⟨_,(zpss_cons (zps_set (i:=2) scLS.nd rfl (Or.inl rfl) zpe_str)
   (zpss_cons (zps_set (i:=3) scLS.nd rfl (Or.inl rfl) (zpe_call GD hr1 (by rfl) mD kD bD .nil passE0 (zpac_n (zpv 0) (zpac_c zpe_int zpa_nil))))
   (zpss_cons (zps_set (i:=4) scLS.nd rfl (Or.inl rfl) (zpe_ix ix_list (zpe_lst (zpac_c zpe_int (zpac_c zpe_int (zpac_c zpe_int (zpac_c zpe_int zpa_nil))))) (zpe_call GD hr1 (by rfl) mD kD bD .nil passE0 (zpac_n (zpv 0) (zpac_c zpe_int zpa_nil))) (fun _ _=>rfl)))
   (zpss_cons (zps_set (i:=5) scLS.nd rfl (Or.inl rfl) (zpe_lst zpa_nil))
   (zpss_cons (zps_for PassesOwn.never rfl (zpi_range1 (by rfl) B.range (zpac_n (zpv 1) zpa_nil)) (zpg_name (i:=6) scLS.nd rfl (Or.inl rfl)) (zpss_cons (zps_set (i:=7) scLS.nd rfl (Or.inl rfl) (zpe_call GP hr (by rfl) mP kP bP .nil passE0 (zpac_n (zpv 0) zpa_nil)))
   (zpss_cons (zps_cut (zps_if (zpw_and (zpt_cmpR op_gt (zpv 6) zpe_int (nomark _)) (zpw_and1 (zpt_cmpR op_eq (zpe_call GD hr1 (by rfl) mD kD bD .nil passE0 (zpac_n (zpv 0) (zpac_c zpe_int zpa_nil))) zpe_int (nomark _)))).pt (zpss_one (zps_set (i:=7) scLS.nd rfl (Or.inl rfl) (zpe_ix ix_tup (zpe_ix ix_list (zpv 5) (zpe_op op_sub (zpv 6) zpe_int) (fun _ _=>rfl)) zpe_int (fun _ _=>rfl)))) zpss_nil))
   (zpss_cons (zps_set (i:=8) scLS.nd rfl (Or.inl rfl) (zpv 7))
   (zpss_cons (zps_set (i:=9) scLS.nd rfl (Or.inl rfl) (zpe_call GD hr1 (by rfl) mD kD bD .nil passE0 (zpac_n (zpv 0) (zpac_c zpe_int zpa_nil))))
   (zpss_cons (zps_cut (zps_if (zpt_cmpR op_eq (zpv 9) zpe_int (nomark _)) (zpss_one (zps_set (i:=8) scLS.nd rfl (Or.inl rfl) zpe_non)) (zpss_one (zps_if (zpt_cmpR op_gt (zpv 9) zpe_int (nomark _)) (zpss_one (zps_set (i:=8) scLS.nd rfl (Or.inl rfl) (zpe_call GP hr (by rfl) mP kP bP .nil passE0 (zpac_n (zpv 0) zpa_nil)))) zpss_nil))))
   (zpss_one (zps_expr (zpe_bm PySem.F.plainAttrs_list PySem.F.slot_list_append PySem.F.type_list_append mt_append (zpv 5)
      (zpac_t (zpe_tup (zpac_s (zpe_ix ix_str (zpv 2) (zpe_op op_mod (zpe_op op_add (zpv 3) (zpe_op op_mul (zpv 4) (zpv 6))) zpe_int) (fun _ _=>rfl)) (zpac_n (zpv 7) (zpac_n (zpv 8) zpa_nil)))) zpa_nil))))))))))
   (zpss_one (zps_ret (zpv 5)))))))),?_⟩
  refine ⟨_,rfl,p,26,rfl,sr,by decide,sm2001 26 (by decide),fun st H1 st0 st1 sr1 x1=>?_⟩
  refine ⟨by show 4≤sizeLine; decide,fun l4 h4=>⟨_,rfl,p,4,rfl,sr1.new h4,by decide,sm2001 4 (by decide),fun i4 H2 i40 i41 sr2 x2=>?_⟩⟩
  have hl4:H2 l4=some (.lst [.int 1,.int 3,.int 7,.int 25]):=(x2 l4 (sr1.ne h4)).trans upd_same
  have E2:Ext p H H2:=((Ext.of_eq x1).trans (Ext.new h4)).trans (.of_eq x2)
  obtain ⟨sp,hsp,sps⟩:∃sp:Int,atI [V.int 1,V.int 3,V.int 7,V.int 25] i4=some (V.int sp)∧(sp=1∨sp=3∨sp=7∨sp=25):=by
   have four:i4=0∨i4=1∨i4=2∨i4=3:=by omega
   rcases four with rfl | rfl | rfl | rfl
   ·exact ⟨1,rfl,by simp⟩
   ·exact ⟨3,rfl,by simp⟩
   ·exact ⟨7,rfl,by simp⟩
   ·exact ⟨25,rfl,by simp⟩
  have sp0:0 < sp∧sp≤25:=by omega
  refine ⟨l4,_,_,_,rfl,rfl,SqL.of hl4,hsp,by show 0≤sizeLine; decide,fun L hL=>?_⟩
  have Lp:L≠p:=sr2.ne hL
  have LH:H L=none:=by
   cases e:H L with
   | none=>rfl
   | some o=>
    have:=E2 L o Lp e
    rw [hL] at this; cases this
  refine ⟨_,rfl,many,rfl,by omega,by omega,for_range (lo:=0) (n:=(many:Int).toNat)
   (fun k σ H3=>∃vk vp vl vw xs,σ=[some (.ref p),some (.int many),some (.str letters),some (.int st),some (.int sp),some (.ref L),vk,vp,vl,vw]∧H3 L=some (.lst xs)∧Rows H3 xs (cods st sp k)∧Src H3 p∧Ext p H H3)
   ⟨_,_,_,_,[],rfl,upd_same,⟨rfl,fun i x c e=>by simp at e⟩,sr2.new hL,E2.trans (Ext.new hL)⟩ ?_ ?_⟩
  ·rintro k σ H3 hk ⟨vk,vp,vl,vw,xs,rfl,hL3,rows,sr3,E3⟩
   have hk':k < many:=by simpa using hk
   have lx:xs.length=k:=by rw [rows.len,cods_len]
   refine ⟨_,rfl,p,rfl,sr3,fun x H4 px sr4 X4=>?_⟩
   have hL4:=X4 _ _ Lp hL3
   have rows4:=rows.src sr3 X4
   have E4:=E3.trans X4
   refine ⟨fun σ' H'=>∃x,σ'=[some (.ref p),some (.int many),some (.str letters),some (.int st),some (.int sp),some (.ref L),some (.int (0 + k)),some x,vl,vw]∧PrA H' x∧H' L=some (.lst xs)∧Rows H' xs (cods st sp k)∧Src H' p∧Ext p H H',?_,?_⟩
   ·refine ⟨_,rfl,_,_,rfl,rfl,_,rfl,?_⟩
    refine ite2 (fun e=>?_) (fun _=>⟨x,rfl,px,hL4,rows4,sr4,E4⟩)
    have k0:0 < k:=by have:=of_decide_eq_true e; omega
    refine ⟨_,rfl,p,4,rfl,sr4,by decide,sm2001 4 (by decide),fun d5 H5 _ _ sr5 x5=>⟨rfl,_,rfl,?_⟩⟩
    have X5:Ext p H4 H5:=.of_eq x5
    have hL5:=X5 _ _ Lp hL4
    have rows5:=rows4.src sr4 X5
    refine ite2 (fun _=>?_) (fun _=>⟨x,rfl,px.src sr4 X5,hL5,rows5,sr5,E4.trans X5⟩)
    have kx:k - 1 < xs.length:=by omega
    obtain ⟨cc,_,row⟩:=rows5.at (List.getElem?_eq_getElem kx)
    obtain ⟨a,q1,q2,ea,ha,hq1,_⟩:=row.ex
    refine ⟨_,rfl,_,rfl,_,_,rfl,rfl,L,_,_,_,rfl,rfl,SqL.of hL5,?_,a,_,_,_,ea,rfl,SqT.of ha,rfl,?_⟩
    ·have:(0:Int) + k - 1=((k - 1:Nat):Int):=by omega
     rw [this]
     exact atI_nat (List.getElem?_eq_getElem kx)
    ·exact ⟨q1,rfl,hq1,hL5,rows5,sr5,E4.trans X5⟩
   rintro σ1 H6 ⟨x,rfl,px,hL6,rows6,sr6,E6⟩
   refine ⟨_,rfl,?_⟩
   refine ⟨_,rfl,p,6,rfl,sr6,by decide,sm2001 6 (by decide),fun wy H7 _ _ sr7 x7=>?_⟩
   have X7:Ext p H6 H7:=.of_eq x7
   have px7:=px.src sr6 X7
   have hL7:=X7 _ _ Lp hL6
   have rows7:=rows6.src sr6 X7
   have E7:=E6.trans X7
   refine ⟨fun σ' H'=>∃l,σ'=[some (.ref p),some (.int many),some (.str letters),some (.int st),some (.int sp),some (.ref L),some (.int (0 + k)),some x,some l,some (.int wy)]∧PrA H' x∧(l = .non∨PrA H' l)∧H' L=some (.lst xs)∧Rows H' xs (cods st sp k)∧Src H' p∧Ext p H H',?_,?_⟩
   ·refine ⟨_,rfl,rfl,_,rfl,ite2 (fun _=>?_) (fun _=>?_)⟩
    ·exact ⟨.non,rfl,px7,.inl rfl,hL7,rows7,sr7,E7⟩
    ·refine ⟨_,rfl,_,_,rfl,rfl,_,rfl,ite2 (fun _=>?_) (fun _=>?_)⟩
     ·refine ⟨_,rfl,p,rfl,sr7,fun y H8 py sr8 X8=>?_⟩
      exact ⟨y,rfl,px7.src sr7 X8,.inr py,X8 _ _ Lp hL7,rows7.src sr7 X8,sr8,E7.trans X8⟩
     ·exact ⟨x,rfl,px7,.inr px7,hL7,rows7,sr7,E7⟩
   rintro σ2 H9 ⟨la,rfl,px9,pl9,hL9,rows9,sr9,E9⟩
   have m0:0≤(st + sp * (0 + (k:Int))) % 26:=Int.emod_nonneg _ (by decide)
   have m1:(st + sp * (0 + (k:Int))) % 26 < 26:=Int.emod_lt_of_pos _ (by decide)
   have cc:cod st sp k=97 + ((st + sp * (0 + (k:Int))) % 26).toNat:=by unfold cod; rw [Int.zero_add]
   have hn:((st + sp * (0 + (k:Int))) % 26).toNat < 26:=by omega
   have hat:atI letters.cps.toList ((st + sp * (0 + (k:Int))) % 26)=some (cod st sp k):=by
    have:(st + sp * (0 + (k:Int))) % 26=(((st + sp * (0 + (k:Int))) % 26).toNat:Int):=by omega
    rw [this,cc]
    exact atI_nat (letters_at _ hn)
   refine ⟨_,rfl,.inl ⟨rfl,_,SqL.of hL9⟩,_,rfl,_,rfl,_,rfl,_,rfl,_,_,rfl,rfl,.inl ⟨by omega,by omega⟩,_,_,rfl,rfl,_,_,rfl,rfl,(by show (0:Int) < 26; decide),?_⟩
   refine ⟨letters,_,cod st sp k,rfl,rfl,by decide +kernel,hat,_,rfl,_,rfl,by show 3≤sizeLine; decide,fun t ht=>?_⟩
   have s10:=same_upd (o:=.tup [.str (sg1 (cod st sp k)),x,la]) ht
   have hL10:=s10 _ _ hL9
   have row:Row (upd H9 t (.tup [.str (sg1 (cod st sp k)),x,la])) (.ref t) (cod st sp k):=
    ⟨⟨t,x,la,rfl,upd_same,px9.same s10,pl9.imp id fun z=>z.same s10⟩,by rw [cc]; exact letters_occ _ hn⟩
   refine ⟨L,_,_,rfl,rfl,hL10,?_,?_⟩
   ·rw [lx]
    exact Nat.lt_of_lt_of_le (show k < 6 by omega) (by decide)
   refine ⟨_,_,_,_,xs ++ [.ref t],rfl,upd_same,?_,?_,?_⟩
   ·rw [cods_succ]
    exact ((rows9.same s10).snoc row).put hL10
   ·obtain ⟨n,d,e,r⟩:=(sr9.same s10).ex
    exact ⟨n,d,by rw [upd_ne Lp.symm]; exact e,r⟩
   ·intro b o nb hb
    rw [upd_ne (ne_of_none hb LH)]
    exact s10 _ _ (E9 b o nb hb)
  ·rintro σ H3 ⟨vk,vp,vl,vw,xs,rfl,hL3,rows,sr3,E3⟩
   have e:(many:Int).toNat=many:=by simp
   rw [e] at rows
   exact ⟨_,rfl,q L xs _ H3 LH Lp hL3 rows (cods_nd sps m6) (cods_len _ _ _) sr3 E3⟩
end
theorem same_ext {H H2 H3:Hp} {p:Addr} (s:Same H H2) (e:Ext p H2 H3) (n:H p=none):Same H H3:=fun b o h=>e b o (ne_of_none h n) (s b o h)
structure Md (H H2:Hp) (q:Addr):Prop where
 src:Src H2 q
 ext:Ext q H H2
theorem Md.put {H H2:Hp} {q l:Addr} {o:HO} (h:Md H H2 q) (n:H l=none) (ne:l≠q):Md H (upd H2 l o) q:=by
 refine ⟨?_,fun b u nb hb=>by rw [upd_ne (ne_of_none hb n)]; exact h.ext b u nb hb⟩
 obtain ⟨n',d,e,r⟩:=h.src.ex
 exact ⟨n',d,by rw [upd_ne ne.symm]; exact e,r⟩
theorem Md.fresh {H H2:Hp} {q l:Addr} (h:Md H H2 q) (n:H2 l=none):H l=none∧l≠q:=by
 have ne:=h.src.ne n
 refine ⟨?_,ne⟩
 cases e:H l with
 | none=>rfl
 | some o=>
  have:=h.ext l o ne e
  rw [n] at this; cases this
theorem Md.draw {H H2 H3:Hp} {q:Addr} (h:Md H H2 q) (s:Src H3 q) (x:∀b,b≠q→H3 b=H2 b):Md H H3 q:=⟨s,h.ext.trans (.of_eq x)⟩
theorem sg2_inj {a b c d:Nat} (h:sg1 a ++ sg1 b=sg1 c ++ sg1 d):a=c∧b=d:=by
 have h2:(sg1 a ++ sg1 b:Str).cps=(sg1 c ++ sg1 d:Str).cps:=by rw [h]
 have e:∀x y:Nat,(sg1 x ++ sg1 y:Str).cps = #[x,y]:=fun x y=>rfl
 rw [e,e] at h2
 simpa using h2
theorem sgs_nd {cs:List Nat} (h:cs.Nodup):(sgs cs).Nodup:=by
 unfold sgs List.Nodup
 rw [List.pairwise_map]
 exact List.Pairwise.imp (fun {a b} ne e=>ne (sg1_inj e)) h
theorem prs_nd {cs:List Nat} (h:cs.Nodup):(prs (sgs cs)).Nodup:=by
 unfold prs List.Nodup
 rw [List.pairwise_flatMap]
 constructor
 ·intro a ha
  obtain ⟨c,_,rfl⟩:=List.mem_map.mp ha
  rw [List.pairwise_map]
  unfold sgs
  rw [List.pairwise_map]
  exact List.Pairwise.imp (fun {x y} ne e=>ne (sg2_inj e).2) h
 ·unfold sgs
  rw [List.pairwise_map]
  refine List.Pairwise.imp (fun {x y} ne u hu v hv e=>?_) h
  obtain ⟨b,hb,rfl⟩:=List.mem_map.mp hu
  obtain ⟨d,hd,rfl⟩:=List.mem_map.mp hv
  obtain ⟨b',_,rfl⟩:=List.mem_map.mp hb
  obtain ⟨d',_,rfl⟩:=List.mem_map.mp hd
  exact ne (sg2_inj e).1
theorem nd_rev {ts:List Str} (h:ts.Nodup):ts.reverse.Nodup:=by
 unfold List.Nodup
 rw [List.pairwise_reverse]
 exact List.Pairwise.imp (fun ne=>Ne.symm ne) h
theorem txs_at {ts:List Str} {i:Nat} {x:V} (h:(txs ts)[i]? = some x):∃a,ts[i]? = some a∧x = .str a:=by
 unfold txs at h
 rw [List.getElem?_map] at h
 obtain ⟨t,h1,h2⟩:=Option.map_eq_some_iff.mp h
 exact ⟨t,h1,h2.symm⟩
theorem txs_snoc (ts:List Str) (a:Str):txs ts ++ [V.str a]=txs (ts ++ [a]):=by unfold txs; rw [List.map_append]; rfl
theorem sub_snoc {fs ks:List Str} {i:Nat} {a:Str} (h:fs.Sublist (ks.take i)) (e:ks[i]? = some a):(fs ++ [a]).Sublist (ks.take (i + 1)):=by
 rw [List.take_add_one,e]
 exact List.Sublist.append h (List.Sublist.refl _)
theorem sub_skip {fs ks:List Str} {i:Nat} (h:fs.Sublist (ks.take i)):fs.Sublist (ks.take (i + 1)):=by
 refine h.trans ?_
 rw [List.take_add_one]
 exact List.sublist_append_left _ _
section
variable {P:Program} {w:World} {K:PySem.W.Frag} {mg:Str→Option Value} {base:Heap}
abbrev nmT:List Str:=["_law_script","_law_base","_law_most","_law_longs","_law_source_here","_law_many","_law_signs_here","_law_one","_law_names","_law_longest","_law_rare","_law_firsts","_law_pairs"]
def spTongue (K:PySem.W.Frag):Sp:=fun vs H Q _=>∃(a lo:Addr) (ns ls:List Int) (b m:Int),vs=[.ref a,.int b,.int m,.ref lo]∧SqL K H a (ns.map V.int)∧0≤b∧b≤900∧2≤m∧m≤6∧SqL K H lo (ls.map V.int)∧(ls.length:Int)=m - 1∧(∀v∈ls,1≤v∧v≤8)∧
 ∀t cs fs ps lg H',H t=none→Tg H' t cs fs ps lg→Same H H'→Q (.ref t) H'
theorem scT:FnScope nmT ["_law_script","_law_base","_law_most","_law_longs"] (defScope sTongue):=⟨rfl,rfl,rfl,by decide +kernel,rfl,by decide +kernel,by decide +kernel⟩
theorem ok_tongue {f fC fS fD fL:Addr} {fd fdC fdS fdD fdL:FuncData} (F:FunG K "_law_tongue" "_law_tongue" sTongue .none f fd) (B:Bl mg)
  (GC:FnOk P w K mg base (CXE P w) 1 fC fdC ["_law_script","_law_k"] (spCell K)) (mC:mg "_law_cell" = some (.ref fC)) (kC:PySem.W.keepIn K (.ref fC)=true) (bC:Binds K fdC ["_law_script","_law_k"] [])
  (GS:FnOk P w K mg base (CXE P w) 1 fS fdS ["_law_cell_here","_law_k"] spSource) (mS:mg "_law_source" = some (.ref fS)) (kS:PySem.W.keepIn K (.ref fS)=true) (bS:Binds K fdS ["_law_cell_here","_law_k"] [])
  (GD:FnOk P w K mg base (CXE P w) 1 fD fdD ["_law_source_here","_law_many"] spDraw) (mD:mg "_law_draw" = some (.ref fD)) (kD:PySem.W.keepIn K (.ref fD)=true) (bD:Binds K fdD ["_law_source_here","_law_many"] [])
  (GL:FnOk P w K mg base (CXE P w) 3 fL fdL ["_law_source_here","_law_many"] spLSigns) (mL:mg "_law_signs" = some (.ref fL)) (kL:PySem.W.keepIn K (.ref fL)=true) (bL:Binds K fdL ["_law_source_here","_law_many"] []) :
  FnOk P w K mg base (CXE P w) 4 f fd ["_law_script","_law_base","_law_most","_law_longs"] (spTongue K):=by
 refine F.zokN scT (fun vs H Q E h=>?_) (fun cdv A outer s H vs Q E hr h=>?_)
 ·obtain ⟨a,lo,ns,ls,b,m,rfl,_⟩:=h
  rfl
 ·obtain ⟨a,lo,ns,ls,b,m,rfl,ha,b0,b1,m2,m6,hlo,ll,lv,q⟩:=h
  have hr1:Room 1 _:=hr.mono (by decide)
  refine ⟨_,(zpss_cons (zps_set (i:=4) scT.nd rfl (Or.inr rfl) (zpe_call GS hr1 (by rfl) mS kS bS .nil passE0 (zpac_f (zpe_call GC hr1 (by rfl) mC kC bC .nil passE0 (zpac_n (zpv 0) (zpac_n (zpv 1) zpa_nil))) (zpac_n (zpv 1) zpa_nil))))
   (zpss_cons (zps_set (i:=5) scT.nd rfl (Or.inl rfl) (zpe_op op_add zpe_int (zpe_call GD hr1 (by rfl) mD kD bD .nil passE0 (zpac_n (zpv 4) (zpac_b (zpe_op op_sub (zpv 2) zpe_int) zpa_nil)))))
   (zpss_cons (zps_set (i:=6) scT.nd rfl (Or.inl rfl) (zpe_call GL hr (by rfl) mL kL bL .nil passE0 (zpac_n (zpv 4) (zpac_n (zpv 5) zpa_nil))))
   (zpss_cons (zps_comp (i:=8) nmT ["_law_one"] [] (defScope sTongue) rfl rfl rfl ⟨by decide +kernel,by decide +kernel,by decide +kernel,by decide +kernel,by decide +kernel⟩ scT.nd rfl (Or.inl rfl) (zpi_list (zpv 6))
     (fun s H fp=>zpg_name (i:=0) (show List.Nodup [("_law_one" : Str)] by decide +kernel) rfl (Or.inl rfl)) (fun s H fp=>zpts_nil) (fun s H fp=>zpe_ix (ix_tupK K rfl) (zpv 0) zpe_int (fun _ _=>rfl)))
   (zpss_cons (zps_set (i:=4) scT.nd rfl (Or.inr rfl) (zpe_call GS hr1 (by rfl) mS kS bS .nil passE0 (zpac_f (zpe_call GC hr1 (by rfl) mC kC bC .nil passE0 (zpac_n (zpv 0) (zpac_b (zpe_op op_add (zpv 1) zpe_int) zpa_nil))) (zpac_b (zpe_op op_add (zpv 1) zpe_int) zpa_nil))))
   (zpss_cons (zps_set (i:=9) scT.nd rfl (Or.inl rfl) (zpe_op op_add zpe_int (zpe_call GD hr1 (by rfl) mD kD bD .nil passE0 (zpac_n (zpv 4) (zpac_s (zpe_ix ix_list (zpv 3) (zpe_op op_sub (zpv 5) zpe_int) (fun _ _=>rfl)) zpa_nil)))))
   (zpss_cons (zps_set (i:=10) scT.nd rfl (Or.inr rfl) (zpe_ix ix_list (zpe_lst (zpac_c zpe_int (zpac_c zpe_int (zpac_c zpe_int (zpac_c zpe_int zpa_nil))))) (zpe_call GD hr1 (by rfl) mD kD bD .nil passE0 (zpac_n (zpv 4) (zpac_c zpe_int zpa_nil))) (fun _ _=>rfl)))
   (zpss_cons (zps_comp (i:=11) nmT ["_law_sign"] [4] (defScope sTongue) rfl rfl rfl ⟨by decide +kernel,by decide +kernel,by decide +kernel,by decide +kernel,by decide +kernel⟩ scT.nd rfl (Or.inl rfl) (zpi_list (zpv 8))
     (fun s H fp=>zpg_name (i:=0) (show List.Nodup [("_law_sign" : Str),"_law_source_here"] by decide +kernel) rfl (Or.inl rfl))
     (fun s H fp=>zpts_one (zpt_cmpR op_eq (zpe_call GD hr1 (by rfl) mD kD bD .nil passE0 (zpac_n (zpv 1) (zpac_c zpe_int zpa_nil))) zpe_int (nomark _))) (fun s H fp=>zpv 0))
   (zpss_cons (zps_set (i:=12) scT.nd rfl (Or.inl rfl) (zpe_lst zpa_nil))
   (zpss_cons (zps_for PassesOwn.never rfl (zpi_list (zpv 8)) (zpg_name (i:=7) scT.nd rfl (Or.inr rfl))
     (zpss_one (zps_expr (zpe_bm PySem.F.plainAttrs_list PySem.F.slot_list_extend PySem.F.type_list_extend mt_extend (zpv 12)
      (zpac_x (zpe_comp nmT ["_law_other"] [4,7,10] (defScope sTongue) rfl rfl rfl ⟨by decide +kernel,by decide +kernel,by decide +kernel,by decide +kernel,by decide +kernel⟩ (zpi_list (zpv 8))
       (fun s H fp=>zpg_name (i:=0) (show List.Nodup [("_law_other" : Str),"_law_source_here","_law_one","_law_rare"] by decide +kernel) rfl (Or.inl rfl))
       (fun s H fp=>zpts_one (zpt_cmpR op_eq (zpe_call GD hr1 (by rfl) mD kD bD .nil passE0 (zpac_n (zpv 1) (zpac_n (zpv 3) zpa_nil))) zpe_int (nomark _))) (fun s H fp=>zpe_op op_add_str (zpv 2) (zpv 0))) zpa_nil)))))
   (zpss_cons (zps_cut (zps_if (zpt_cmpR op_eq (zpe_call GD hr1 (by rfl) mD kD bD .nil passE0 (zpac_n (zpv 4) (zpac_c zpe_int zpa_nil))) zpe_int (nomark _))
     (zpss_cons (zps_set (i:=11) scT.nd rfl (Or.inl rfl) (zpe_rev (zpv 11)))
   (zpss_one (zps_set (i:=12) scT.nd rfl (Or.inl rfl) (zpe_rev (zpv 12))))) zpss_nil))
   (zpss_one (zps_ret (zpe_tup (zpac_n (zpv 6) (zpac_n (zpv 11) (zpac_n (zpv 12) (zpac_n (zpv 9) zpa_nil)))))))))))))))))),?_⟩
  refine ⟨_,rfl,_,rfl,a,ns,b,rfl,ha,b0,fun z=>⟨_,rfl,z,b,rfl,b0,by omega,fun p H1 hp sr1 x1=>?_⟩⟩
  have s1:Same H H1:=fun c o e=>(x1 c (ne_of_none e hp)).trans e
  refine ⟨_,rfl,_,rfl,_,_,rfl,rfl,p,m - 1,rfl,sr1,by omega,small_big (by omega) (by omega),fun d H2 d0 d1 sr2 x2=>⟨_,_,rfl,rfl,?_⟩⟩
  have s2:Same H H2:=same_ext s1 (.of_eq x2) hp
  obtain ⟨k,hk⟩:∃k:Nat,(2 + d:Int)=k:=⟨(2 + d).toNat,by omega⟩
  refine ⟨_,rfl,_,rfl,p,k,(by show [V.ref p,V.int (2 + d)]=[V.ref p,V.int (k:Int)]; rw [hk]),sr2,by omega,fun L xs cs H3 hL0 Lp hL3 rows3 nd clen sr3 E3=>?_⟩
  have s3:Same H H3:=same_ext s2 E3 hp
  refine ⟨_,rfl,L,rfl,⟨_,SqL.of hL3⟩,fun nl hnl=>?_⟩
  refine ⟨fun i m σ2 H4=>i≤cs.length∧m=cs.length - i∧(∃v,σ2=[v])∧H4 nl=some (.lst (txs (sgs (cs.take i))))∧Same H3 H4,⟨_,Nat.zero_le _,rfl,⟨_,rfl⟩,upd_same,same_upd hnl⟩,?_⟩
  rintro i _ σ2 H4 ⟨hi,rfl,⟨v,rfl⟩,hn4,s4⟩
  have hL4:=s4 _ _ hL3
  by_cases hlt:i < cs.length
  ·refine .inr ⟨⟨_,_,SqL.of hL4,List.getElem?_eq_getElem (show i < xs.length by rw [rows3.len]; exact hlt)⟩,?_⟩
   rintro x H5 ⟨rfl,hx⟩
   obtain ⟨cc,hc,row⟩:=rows3.at (hx _ (SqL.of hL4))
   obtain ⟨a',p',la,rfl,ha',_⟩:=(row.kp (Kp.same s4)).ex
   dsimp only [gName]
   rw [if_pos rfl]
   refine ⟨_,rfl,a',_,_,_,rfl,rfl,SqT.of ha',rfl,_,hn4,?_,cs.length - (i + 1),by omega,hlt,rfl,⟨_,rfl⟩,?_,?_⟩
   ·unfold txs sgs
    rw [List.length_map,List.length_map,List.length_take]
    exact Nat.lt_of_le_of_lt (show min i cs.length≤6 by omega) (by decide)
   ·have:txs (sgs (cs.take i)) ++ [V.str (sg1 cc)]=txs (sgs (cs.take (i + 1))):=by
     unfold txs sgs
     rw [List.take_add_one,hc,List.map_append,List.map_append]; rfl
    rw [← this]; exact upd_same
   ·intro c o hc
    rw [upd_ne (ne_of_none hc hnl)]; exact s4 c o hc
  have ei:i=cs.length:=by omega
  subst ei
  rw [List.take_length] at hn4
  refine .inl ⟨⟨_,SqL.of hL4,by rw [rows3.len]; exact Nat.le_refl _⟩,?_⟩
  have S4:Same H H4:=s3.trans s4
  have rows4:=rows3.same s4
  refine ⟨_,rfl,_,rfl,_,_,rfl,rfl,a,ns,b + 1,rfl,S4.seq ha,by omega,fun z2=>⟨_,rfl,_,_,rfl,rfl,z2,b + 1,rfl,by omega,by omega,fun g H5 hg sr5 x5=>?_⟩⟩
  have s5:Same H4 H5:=fun c o e=>(x5 c (ne_of_none e hg)).trans e
  have gn:nl≠g:=ne_of_none hn4 hg
  have gL:L≠g:=ne_of_none hL4 hg
  have gH:∀c o,H c=some o→c≠g:=fun c o e=>ne_of_none (S4 c o e) hg
  have S5:Same H H5:=S4.trans s5
  have hL5:=s5 _ _ hL4
  have hn5:=s5 _ _ hn4
  have rows5:=rows4.same s5
  have M5:Md H5 H5 g:=⟨sr5,fun _ _ _ h=>h⟩
  have kk:(2 + d:Int) - 2=d:=by omega
  obtain ⟨n2,hn2⟩:∃n2:Nat,d=n2:=⟨d.toNat,by omega⟩
  have n2l:n2 < ls.length:=by omega
  have hat:atI (ls.map V.int) ((2 + d:Int) - 2)=some (.int ls[n2]):=by
   rw [kk,hn2]
   exact atI_nat (by simp [n2l])
  have v18:=lv _ (List.getElem_mem n2l)
  refine ⟨_,rfl,_,rfl,_,rfl,_,_,rfl,rfl,lo,_,_,_,rfl,rfl,S5.seq hlo,hat,?_⟩
  refine ⟨g,ls[n2],rfl,sr5,by omega,small_big (by omega) (by omega),fun d6 H6 d60 d61 sr6 x6=>⟨_,_,rfl,rfl,?_⟩⟩
  have M6:=M5.draw sr6 x6
  refine ⟨by show 4≤sizeLine; decide,fun l7 h7=>?_⟩
  obtain ⟨f7,ne7⟩:=M6.fresh h7
  have M7:=M6.put (o:=.lst [.int 2,.int 5,.int 9,.int 36]) f7 ne7
  refine ⟨_,rfl,g,4,rfl,M7.src,by decide,sm2001 4 (by decide),fun i8 H8 i80 i81 sr8 x8=>?_⟩
  have M8:=M7.draw sr8 x8
  have hl8:H8 l7=some (.lst [.int 2,.int 5,.int 9,.int 36]):=(x8 l7 ne7).trans upd_same
  obtain ⟨ra,hra,ra0,ra1⟩:∃ra:Int,atI [V.int 2,V.int 5,V.int 9,V.int 36] i8=some (V.int ra)∧0 < ra∧ra≤36:=by
   have four:i8=0∨i8=1∨i8=2∨i8=3:=by omega
   rcases four with rfl | rfl | rfl | rfl
   ·exact ⟨2,rfl,by decide,by decide⟩
   ·exact ⟨5,rfl,by decide,by decide⟩
   ·exact ⟨9,rfl,by decide,by decide⟩
   ·exact ⟨36,rfl,by decide,by decide⟩
  refine ⟨l7,_,_,_,rfl,rfl,SqL.of hl8,hra,?_⟩
  have hn8:=M8.ext _ _ gn hn5
  have slen:(sgs cs).length=cs.length:=List.length_map ..
  have tlen:(txs (sgs cs)).length=cs.length:=(List.length_map ..).trans slen
  refine ⟨_,rfl,nl,rfl,⟨_,SqL.of hn8⟩,fun fl hfl=>?_⟩
  obtain ⟨f9,ne9⟩:=M8.fresh hfl
  refine ⟨fun i m σ2 H9=>i≤cs.length∧m=cs.length - i∧(∃v,σ2=[v,some (.ref g)])∧(∃fs:List Str,H9 fl=some (.lst (txs fs))∧fs.Sublist ((sgs cs).take i))∧Md H5 H9 g,⟨_,Nat.zero_le _,rfl,⟨_,rfl⟩,⟨[],upd_same,List.nil_sublist _⟩,M8.put f9 ne9⟩,?_⟩
  rintro i _ σ2 H9 ⟨hi,rfl,⟨v,rfl⟩,⟨fs,hf9,sub9⟩,M9⟩
  have hn9:=M9.ext _ _ gn hn5
  by_cases hlt:i < cs.length
  ·refine .inr ⟨⟨_,_,SqL.of hn9,List.getElem?_eq_getElem (show i < (txs (sgs cs)).length by rw [tlen]; exact hlt)⟩,?_⟩
   rintro x H10 ⟨rfl,hx⟩
   obtain ⟨t,ht,rfl⟩:=txs_at (hx _ (SqL.of hn9))
   refine ⟨_,rfl,g,5,rfl,M9.src,by decide,sm2001 5 (by decide),fun e H11 e0 e1 sr11 x11=>⟨rfl,_,rfl,?_⟩⟩
   have M11:=M9.draw sr11 x11
   have hf11:=(x11 fl ne9).trans hf9
   refine ite2 (fun _=>?_) (fun _=>⟨cs.length - (i + 1),by omega,hlt,rfl,⟨_,rfl⟩,⟨fs,hf11,sub_skip sub9⟩,M11⟩)
   refine ⟨_,rfl,_,hf11,?_,cs.length - (i + 1),by omega,hlt,rfl,⟨_,rfl⟩,⟨fs ++ [t],by rw [txs_snoc]; exact upd_same,sub_snoc sub9 ht⟩,M11.put f9 ne9⟩
   have:=sub9.length_le
   unfold txs
   rw [List.length_map]
   rw [List.length_take] at this
   exact Nat.lt_of_le_of_lt (show fs.length≤6 by omega) (by decide)
  have ei:i=cs.length:=by omega
  refine .inl ⟨⟨_,SqL.of hn9,by rw [tlen,ei]; exact Nat.le_refl _⟩,?_⟩
  have sub9':fs.Sublist (sgs cs):=sub9.trans (List.take_sublist _ _)
  clear hlt hi ei sub9
  refine ⟨by show 0≤sizeLine; decide,fun pl hpl=>?_⟩
  obtain ⟨f12,ne12⟩:=M9.fresh hpl
  have M12:=M9.put (o:=.lst []) f12 ne12
  have fp:fl≠pl:=ne_of_none hf9 hpl
  refine ⟨_,rfl,nl,rfl,⟨_,SqL.of (M12.ext _ _ gn hn5)⟩,for_list (K:=K) (a:=nl) (xs:=txs (sgs cs))
   (fun i σ H13=>(∃v7,σ=[some (.ref a),some (.int b),some (.int m),some (.ref lo),some (.ref g),some (.int (2 + d)),some (.ref L),v7,some (.ref nl),some (.int (1 + d6)),some (.int ra),some (.ref fl),some (.ref pl)])∧
    (∃ps:List Str,H13 pl=some (.lst (txs ps))∧ps.Sublist (((sgs cs).take i).flatMap fun a=>(sgs cs).map fun b=>a ++ b))∧H13 fl=some (.lst (txs fs))∧Md H5 H13 g)
   ⟨⟨_,rfl⟩,⟨[],upd_same,List.nil_sublist _⟩,by rw [upd_ne fp]; exact hf9,M12⟩ ?_ ?_ ?_⟩
  ·rintro i σ H13 _ ⟨_,_,_,M13⟩
   exact SqL.of (M13.ext _ _ gn hn5)
  ·rintro i x σ H13 hx ⟨⟨v7,rfl⟩,⟨ps,hp13,sub13⟩,hf13,M13⟩
   obtain ⟨t,ht,rfl⟩:=txs_at hx
   have il:i < cs.length:=by rw [← slen]; exact (List.getElem?_eq_some_iff.mp ht).1
   have hn13:=M13.ext _ _ gn hn5
   refine ⟨_,rfl,.inl ⟨rfl,_,SqL.of hp13⟩,_,rfl,nl,rfl,⟨_,SqL.of hn13⟩,fun zl hzl=>?_⟩
   obtain ⟨f14,ne14⟩:=M13.fresh hzl
   have zp:pl≠zl:=ne_of_none hp13 hzl
   have zf:fl≠zl:=ne_of_none hf13 hzl
   refine ⟨fun j m σ2 H14=>j≤cs.length∧m=cs.length - j∧(∃v,σ2=[v,some (.ref g),some (.str t),some (.int ra)])∧(∃zs:List Str,H14 zl=some (.lst (txs zs))∧zs.Sublist (((sgs cs).take j).map fun b=>t ++ b))∧H14 pl=some (.lst (txs ps))∧H14 fl=some (.lst (txs fs))∧Md H5 H14 g,
    ⟨_,Nat.zero_le _,rfl,⟨_,rfl⟩,⟨[],upd_same,List.nil_sublist _⟩,by rw [upd_ne zp]; exact hp13,by rw [upd_ne zf]; exact hf13,M13.put f14 ne14⟩,?_⟩
   rintro j _ σ2 H14 ⟨hj,rfl,⟨v,rfl⟩,⟨zs,hz14,sub14⟩,hp14,hf14,M14⟩
   have hn14:=M14.ext _ _ gn hn5
   by_cases hlt:j < cs.length
   ·refine .inr ⟨⟨_,_,SqL.of hn14,List.getElem?_eq_getElem (show j < (txs (sgs cs)).length by rw [tlen]; exact hlt)⟩,?_⟩
    rintro y H15 ⟨rfl,hy⟩
    obtain ⟨u,hu,rfl⟩:=txs_at (hy _ (SqL.of hn14))
    refine ⟨_,rfl,_,rfl,g,ra,rfl,M14.src,ra0,small_big ra0 (by omega),fun e H16 e0 e1 sr16 x16=>⟨rfl,_,rfl,?_⟩⟩
    have M16:=M14.draw sr16 x16
    have hz16:=(x16 zl ne14).trans hz14
    have hp16:=(x16 pl ne12).trans hp14
    have hf16:=(x16 fl ne9).trans hf14
    have step:((sgs cs).take (j + 1)).map (fun b=>t ++ b)=((sgs cs).take j).map (fun b=>t ++ b) ++ [t ++ u]:=by
     rw [List.take_add_one,hu,List.map_append]; rfl
    refine ite2 (fun _=>?_) (fun _=>⟨cs.length - (j + 1),by omega,hlt,rfl,⟨_,rfl⟩,⟨zs,hz16,sub14.trans (by rw [step]; exact List.sublist_append_left _ _)⟩,hp16,hf16,M16⟩)
    have one:∀z∈sgs cs,z.length=1:=fun z hz=>by
     obtain ⟨c,_,rfl⟩:=List.mem_map.mp hz
     rfl
    refine ⟨_,rfl,_,rfl,t,u,rfl,rfl,?_,_,hz16,?_,cs.length - (j + 1),by omega,hlt,rfl,⟨_,rfl⟩,⟨zs ++ [t ++ u],by rw [← txs_snoc]; exact upd_same,by rw [step]; exact List.Sublist.append sub14 (List.Sublist.refl _)⟩,by rw [upd_ne zp]; exact hp16,by rw [upd_ne zf]; exact hf16,M16.put f14 ne14⟩
    ·rw [one t (List.mem_of_getElem? ht),one u (List.mem_of_getElem? hu)]; decide
    ·have:=sub14.length_le
     unfold txs
     rw [List.length_map]
     rw [List.length_map,List.length_take] at this
     exact Nat.lt_of_le_of_lt (show zs.length≤6 by omega) (by decide)
   ·have ej:j=cs.length:=by omega
    refine .inl ⟨⟨_,SqL.of hn14,by rw [tlen,ej]; exact Nat.le_refl _⟩,?_⟩
    refine ⟨pl,zl,_,_,rfl,rfl,hp14,hz14,?_,?_⟩
    ·have l1:=sub13.length_le
     have l2:=sub14.length_le
     rw [flat_len _ _ (sgs cs).length (fun a=>by rw [List.length_map]),List.length_take] at l1
     rw [List.length_map,List.length_take] at l2
     have:min i (sgs cs).length * (sgs cs).length≤6 * 6:=Nat.mul_le_mul (by omega) (by omega)
     unfold txs
     rw [List.length_map,List.length_map]
     exact Nat.le_trans (show _≤42 by omega) (by decide)
    refine ⟨⟨_,rfl⟩,⟨ps ++ zs,?_,?_⟩,by rw [upd_ne fp]; exact hf14,M14.put f12 ne12⟩
    ·have:txs ps ++ txs zs=txs (ps ++ zs):=by unfold txs; rw [List.map_append]
     rw [this]; exact upd_same
    ·rw [prs_snoc ht]
     exact List.Sublist.append sub13 (sub14.trans (List.Sublist.map _ (List.take_sublist _ _)))
  rintro σ H13 ⟨⟨v7,rfl⟩,⟨ps,hp13,sub13⟩,hf13,M13⟩
  rw [tlen,← slen,List.take_length] at sub13
  refine ⟨fun σ' H'=>∃fl' pl' fs' ps',σ'=[some (.ref a),some (.int b),some (.int m),some (.ref lo),some (.ref g),some (.int (2 + d)),some (.ref L),v7,some (.ref nl),some (.int (1 + d6)),some (.int ra),some (.ref fl'),some (.ref pl')]∧
    H' fl'=some (.lst (txs fs'))∧H' pl'=some (.lst (txs ps'))∧fs'.Nodup∧(∀f∈fs',f∈sgs cs)∧ps'.Nodup∧(∀p∈ps',p∈prs (sgs cs))∧Md H5 H' g,?_,?_⟩
  ·have fn:fs.Nodup:=(sgs_nd nd).sublist sub9'
   have fm:∀f∈fs,f∈sgs cs:=fun f hf=>sub9'.subset hf
   have pn:ps.Nodup:=(prs_nd nd).sublist sub13
   have pm:∀p∈ps,p∈prs (sgs cs):=fun p hp=>sub13.subset hp
   refine ⟨_,rfl,g,2,rfl,M13.src,by decide,sm2001 2 (by decide),fun e H14 e0 e1 sr14 x14=>⟨rfl,_,rfl,?_⟩⟩
   have M14:=M13.draw sr14 x14
   have hp14:=(x14 pl ne12).trans hp13
   have hf14:=(x14 fl ne9).trans hf13
   refine ite2 (fun _=>?_) (fun _=>⟨fl,pl,fs,ps,rfl,hf14,hp14,fn,fm,pn,pm,M14⟩)
   refine ⟨_,rfl,fl,_,rfl,SqL.of hf14,fun fr hfr=>?_⟩
   obtain ⟨f15,ne15⟩:=M14.fresh hfr
   have hp15:(upd H14 fr (.lst (txs fs).reverse)) pl=some (.lst (txs ps)):=by rw [upd_ne (ne_of_none hp14 hfr)]; exact hp14
   refine ⟨_,rfl,pl,_,rfl,SqL.of hp15,fun pr hpr=>?_⟩
   have M15:=M14.put (o:=.lst (txs fs).reverse) f15 ne15
   obtain ⟨f16,ne16⟩:=M15.fresh hpr
   have rv:∀ts:List Str,(txs ts).reverse=txs ts.reverse:=fun ts=>by unfold txs; rw [List.map_reverse]
   refine ⟨fr,pr,fs.reverse,ps.reverse,rfl,?_,?_,nd_rev fn,fun f hf=>fm f (List.mem_reverse.mp hf),nd_rev pn,fun p hp=>pm p (List.mem_reverse.mp hp),M15.put f16 ne16⟩
   ·rw [upd_ne (ne_of_none upd_same hpr),← rv]; exact upd_same
   ·rw [← rv]; exact upd_same
  rintro σ1 H14 ⟨fl',pl',fs',ps',rfl,hf14,hp14,fn,fm,pn,pm,M14⟩
  refine ⟨_,rfl,_,rfl,_,rfl,_,rfl,by show 4≤sizeLine; decide,fun t ht=>?_⟩
  have s15:=same_upd (o:=.tup [.ref L,.ref fl',.ref pl',.int (1 + d6)]) ht
  have S14:Same H H14:=fun c o e=>M14.ext c o (gH c o e) (S5 c o e)
  have hL14:=M14.ext _ _ gL hL5
  have rows14:Rows H14 xs cs:=rows5.src sr5 M14.ext
  refine q t cs fs' ps' (1 + d6) _ ?_ ⟨⟨L,fl',pl',xs,upd_same,s15 _ _ hL14,rows14.same s15,s15 _ _ hf14,s15 _ _ hp14⟩,nd,by omega,by omega,fn,fm,pn,pm,by omega,by omega⟩ (S14.trans s15)
  cases e:H t with
  | none=>rfl
  | some o=>
   have:=S14 t o e
   rw [ht] at this; cases this
end
end G1
namespace L2
open PySem
theorem boot_max:bootBuiltins "max" = some (.builtin "max"):=by decide +kernel
theorem boot_min:bootBuiltins "min" = some (.builtin "min"):=by decide +kernel
theorem all_true (n:Nat):((List.range n).all fun _=>true)=true:=List.all_eq_true.2 fun _ _=>rfl
end L2
namespace G1
open PySem L2 GM
theorem Kp.seq {K:PySem.W.Frag} {H H':Hp} {a:Addr} {xs:List V} (k:Kp H H') (h:SqL K H a xs):SqL K H' a xs:=by
 rcases h with (h | ⟨o,h⟩) | h
 ·exact .inl (.inl (k _ _ h nofun))
 ·exact .inl (.inr ⟨o,k _ _ h nofun⟩)
 ·exact .inr h
def plainV (x:V):Prop:=flatV x=true∨∃a,x = .ref a
theorem eqd_self {K:PySem.W.Frag} {H:Hp} {x:V} (h:plainV x):EqD K H 0 x x true:=by
 rcases h with h | ⟨a,rfl⟩
 ·refine .inl ⟨h,h,?_⟩
  cases x with
  | non=>rfl
  | bl b=>show true=(b == b); simp
  | int i=>show true=(i == i); simp
  | str z=>show true=(z == z); simp
  | _=>cases h
 ·exact .inr ⟨a,rfl,rfl,rfl⟩
theorem eqd_lists {K:PySem.W.Frag} {H:Hp} {a c:Addr} {xs:List V} (ha:SqL K H a xs) (hc:SqL K H c xs) (ne:a≠c) (hp:∀x∈xs,plainV x):EqD K H 1 (.ref a) (.ref c) true:=by
 refine .inr ⟨a,c,rfl,rfl,ne,?_⟩
 have z:=TopR.lsts (K:=K) (H:=H) (R:=EqD K H 0) (fun _=>true) ha hc rfl fun j x y h1 h2=>by
  rw [h1] at h2; cases h2
  exact eqd_self (hp x (List.mem_of_getElem? h1))
 rw [all_true] at z
 exact z
theorem Rows.plain {H:Hp} {xs:List V} {cs:List Nat} (h:Rows H xs cs):∀x∈xs,plainV x:=fun x hx=>by
 obtain ⟨i,hi⟩:=List.getElem?_of_mem hx
 obtain ⟨c,_,row⟩:=h.at hi
 obtain ⟨a,_,_,e,_⟩:=row.ex
 exact .inr ⟨a,e⟩
theorem txs_plain (ts:List Str):∀x∈txs ts,plainV x:=fun x hx=>by
 obtain ⟨t,_,rfl⟩:=List.mem_map.mp hx
 exact .inl rfl
section
variable {P:Program} {w:World} {K:PySem.W.Frag} {mg:Str→Option Value} {base:Heap}
def spCopy (K:PySem.W.Frag):Sp:=fun vs H Q _=>∃(t S F Pp:Addr) (lg:V) (xs fs ps:List V),vs=[.ref t]∧H t=some (.tup [.ref S,.ref F,.ref Pp,lg])∧H S=some (.lst xs)∧H F=some (.lst fs)∧H Pp=some (.lst ps)∧
 ∀u S' F' P' H',H u=none→H S'=none→H F'=none→H P'=none→H' u=some (.tup [.ref S',.ref F',.ref P',lg])→H' S'=some (.lst xs)→H' F'=some (.lst fs)→H' P'=some (.lst ps)→Same H H'→Q (.ref u) H'
theorem scCp:FnScope ["_law_tongue_here"] ["_law_tongue_here"] (defScope sCopy):=⟨rfl,rfl,rfl,by decide +kernel,rfl,by decide +kernel,by decide +kernel⟩
theorem ok_copy {f:Addr} {fd:FuncData} (F:FunG K "_law_copy" "_law_copy" sCopy .none f fd) (B:Bl mg):FnOk P w K mg base (CXE P w) 1 f fd ["_law_tongue_here"] (spCopy K):=by
 refine F.zokN scCp (fun vs H Q E h=>?_) (fun cdv A outer s H vs Q E hr h=>?_)
 ·obtain ⟨t,S,F',Pp,lg,xs,fs,ps,rfl,_⟩:=h
  rfl
 ·obtain ⟨t,S,F',Pp,lg,xs,fs,ps,rfl,ht,hS,hF,hP,q⟩:=h
  refine ⟨_,(zpss_one (zps_ret (zpe_tup (zpac_f (zpe_callTy call_list_of (by rfl) B.list boot_list (zpac_s (zpe_ix ix_tup (zpv 0) zpe_int (fun _ _=>rfl)) zpa_nil)) (zpac_f (zpe_callTy call_list_of (by rfl) B.list boot_list (zpac_s (zpe_ix ix_tup (zpv 0) zpe_int (fun _ _=>rfl)) zpa_nil))
    (zpac_f (zpe_callTy call_list_of (by rfl) B.list boot_list (zpac_s (zpe_ix ix_tup (zpv 0) zpe_int (fun _ _=>rfl)) zpa_nil)) (zpac_s (zpe_ix ix_tup (zpv 0) zpe_int (fun _ _=>rfl)) zpa_nil))))))),?_⟩
  refine ⟨_,rfl,t,_,_,_,rfl,rfl,SqT.of ht,rfl,S,_,rfl,.inl (SqL.of hS),fun l1 h1=>?_⟩
  have s1:=same_upd (o:=.lst xs) h1
  refine ⟨_,rfl,t,_,_,_,rfl,rfl,SqT.of (s1 _ _ ht),rfl,F',_,rfl,.inl (SqL.of (s1 _ _ hF)),fun l2 h2=>?_⟩
  have s2:=same_upd (o:=.lst fs) h2
  have S2:=s1.trans s2
  refine ⟨_,rfl,t,_,_,_,rfl,rfl,SqT.of (S2 _ _ ht),rfl,Pp,_,rfl,.inl (SqL.of (S2 _ _ hP)),fun l3 h3=>?_⟩
  have s3:=same_upd (o:=.lst ps) h3
  have S3:=S2.trans s3
  refine ⟨_,rfl,t,_,_,_,rfl,rfl,SqT.of (S3 _ _ ht),rfl,by show 4≤sizeLine; decide,fun u hu=>?_⟩
  have s4:=same_upd (o:=.tup [.ref l1,.ref l2,.ref l3,lg]) hu
  have back:∀{G:Hp} {l:Addr},Same H G→G l=none→H l=none:=fun {G l} s n=>by
   cases e:H l with
   | none=>rfl
   | some o=>
    have:=s l o e
    rw [n] at this; cases this
  exact q u l1 l2 l3 _ (back S3 hu) h1 (back s1 h2) (back S2 h3) upd_same (s4 _ _ (s3 _ _ (s2 _ _ upd_same))) (s4 _ _ (s3 _ _ upd_same)) (s4 _ _ upd_same) (S3.trans s4)
end
end G1
namespace L2
open PySem PySem.Spec PyProof.Rows
section
variable {X:Cx} {e tg iter:Expr} {ifs:List Expr} {scope esc:Scope} {pos:Pos} {N os:List Str} {fi:List Nat} {wi:TI} {g:TG} {tt:TT} {tb:Addr→TB} {body:Addr→Env→Sem Fi→Sem Fi} {o0:Addr→HO} {mk:Sem Value} {p:Pos} {elt:Expr} {te:TE}
end
def tyN (H:Hp):V→String
 | .non=>"NoneType"
 | .bl _=>"bool"
 | .int _=>"int"
 | .str _=>"str"
 | .ref a=>match H a with
  | some (.lst _)=>"list"
  | some (.tup _)=>"tuple"
  | some (.dK _)=>"dict"
  | _=>""
 | _=>""
theorem tyN_lst {H:Hp} {a:Addr} {xs:List V} (h:H a=some (.lst xs)):tyN H (.ref a) = "list":=by simp [tyN,h]
theorem tyN_tup {H:Hp} {a:Addr} {xs:List V} (h:H a=some (.tup xs)):tyN H (.ref a) = "tuple":=by simp [tyN,h]
theorem tyN_dK {H:Hp} {a:Addr} {xs:List (Key × V)} (h:H a=some (.dK xs)):tyN H (.ref a) = "dict":=by simp [tyN,h]
theorem Th.tyQ {K:PySem.W.Frag} {H:Hp} {x:V} (h:Th H x):TyX K H x (.type (tyN H x)):=by
 cases h with
 | non=>exact .of .non
 | bl b=>exact .of (.bl b)
 | int i=>exact .of (.int i)
 | str x=>exact .of (.str x)
 | lst h=>rw [tyN_lst h]; exact .of (.lst h)
 | tup h=>rw [tyN_tup h]; exact .of (.tup h)
 | dK h=>rw [tyN_dK h]; exact .of (.dK h)
theorem kit_tup {K:PySem.W.Frag} {H:Hp} {x:V} (h:Th H x):PySem.W.kitOne K (.type (tyN H x)) (.type "tuple")=some (decide (tyN H x = "tuple")):=by
 cases h with
 | lst h=>rw [tyN_lst h]; kernel_rfl
 | tup h=>rw [tyN_tup h]; kernel_rfl
 | dK h=>rw [tyN_dK h]; kernel_rfl
 | _=>kernel_rfl
theorem kit_lst {K:PySem.W.Frag} {H:Hp} {x:V} (h:Th H x):PySem.W.kitOne K (.type (tyN H x)) (.type "list")=some (decide (tyN H x = "list")):=by
 cases h with
 | lst h=>rw [tyN_lst h]; kernel_rfl
 | tup h=>rw [tyN_tup h]; kernel_rfl
 | dK h=>rw [tyN_dK h]; kernel_rfl
 | _=>kernel_rfl
theorem Th.isTup {H:Hp} {x:V} (h:Th H x) (e:tyN H x = "tuple"):∃a xs,x = .ref a∧H a=some (.tup xs):=by
 cases h with
 | tup h=>exact ⟨_,_,rfl,h⟩
 | lst h=>rw [tyN_lst h] at e; exact absurd e (by decide)
 | dK h=>rw [tyN_dK h] at e; exact absurd e (by decide)
 | _=>exact absurd e (by simp [tyN])
theorem Th.isLst {H:Hp} {x:V} (h:Th H x) (e:tyN H x = "list"):∃a xs,x = .ref a∧H a=some (.lst xs):=by
 cases h with
 | lst h=>exact ⟨_,_,rfl,h⟩
 | tup h=>rw [tyN_tup h] at e; exact absurd e (by decide)
 | dK h=>rw [tyN_dK h] at e; exact absurd e (by decide)
 | _=>exact absurd e (by simp [tyN])
end L2
namespace G1
open PySem L2 GM
theorem _root_.L2.Th.kp {H H':Hp} {x:V} (h:Th H x) (s:Kp H H'):Th H' x:=by
 cases h with
 | non=>exact .non
 | bl b=>exact .bl b
 | int i=>exact .int i
 | str x=>exact .str x
 | lst h=>exact .lst (s _ _ h nofun)
 | tup h=>exact .tup (s _ _ h nofun)
 | dK h=>exact .dK (s _ _ h nofun)
theorem back {H H':Hp} {y:V} {a:Addr} {o:HO} (h:Th H y) (k:Kp H H') (e:y = .ref a) (e':H' a=some o):H a=some o:=by
 subst e
 cases h with
 | lst h=>rw [k _ _ h nofun] at e'; cases e'; exact h
 | tup h=>rw [k _ _ h nofun] at e'; cases e'; exact h
 | dK h=>rw [k _ _ h nofun] at e'; cases e'; exact h
end G1
namespace L2
open PySem
end L2
namespace G1
open PySem L2 GM
section
variable {P:Program} {w:World} {K:PySem.W.Frag} {mg:Str→Option Value} {base:Heap}
def _root_.G1.TbK (H H':Hp):Prop:=∀U,Tab U H→Tab U H'
theorem _root_.G1.TbK.refl {H:Hp}:TbK H H:=fun _ h=>h
theorem _root_.G1.TbK.trans {H H1 H2:Hp} (a:TbK H H1) (b:TbK H1 H2):TbK H H2:=fun U h=>b U (a U h)
theorem _root_.G1.TbK.new {H H':Hp} {p:Addr} {o:HO} (a:TbK H H') (n:H' p=none):TbK H (upd H' p o):=fun U h=>(a U h).new n
theorem _root_.G1.TbK.set {H H':Hp} {p:Addr} {o o':HO} (a:TbK H H') (n:H' p=some o') (no:∀ps,o'≠.tbl ps):TbK H (upd H' p o):=fun U h=>(a U h).set n no
theorem _root_.G1.TbK.same {H H' H2:Hp} (a:TbK H H') (s:Same H' H2):TbK H H2:=fun U h=>(a U h).same s
end
theorem TbK.tab {T:Addr} {H:Hp} {ps':Array Value} (t:TriplesOk ps'.toList):TbK H (upd H T (.tbl ps')):=fun U h=>h.put t
def letB (x:V):Bool:=nameB x && match x with
 | .str z=>decide (z.length=1)
 | _=>false
theorem letB_str {x:V} (h:letB x=true):∃c,x = .str (sg1 c)∧occ c=true:=by
 unfold letB at h
 obtain ⟨h1,h2⟩:=Bool.and_eq_true_iff.mp h
 cases x with
 | str z=>
  have l1:z.length=1:=of_decide_eq_true h2
  have ex:∃c,z=sg1 c:=by
   have l:z.cps.toList.length=1:=by rw [Array.length_toList]; exact l1
   match e:z.cps.toList,l with
   | [c],_=>exact ⟨c,PyProof.Rows.ext_toList (by rw [e]; rfl)⟩
  obtain ⟨c,rfl⟩:=ex
  refine ⟨c,rfl,?_⟩
  simp only [nameB,Bool.and_eq_true] at h1
  have a:=h1.2.2
  have a:([c]:List Nat).all occ=true:=a
  simpa using a
 | _=>cases h2
theorem letB_sg1 {c:Nat} (h:occ c=true):letB (.str (sg1 c))=true:=by
 unfold letB
 rw [name1 h]; rfl
def AbP (H:Hp) (x:V):Prop:=∃a n d,x = .ref a∧H a=some (.tup [.int n,.int d])∧0 < n∧0 < d∧Nat.gcd n.natAbs d.natAbs=1
noncomputable def abB (H:Hp) (x:V):Bool:=@decide (AbP H x) (Classical.propDecidable _)
theorem abB_t {H:Hp} {x:V} (h:AbP H x):abB H x=true:=by unfold abB; exact @decide_eq_true _ (Classical.propDecidable _) h
theorem abB_f {H:Hp} {x:V} (h:¬AbP H x):abB H x=false:=by unfold abB; exact @decide_eq_false _ (Classical.propDecidable _) h
theorem AbP.kp {H H':Hp} {x:V} (h:AbP H x) (k:Kp H H'):AbP H' x:=by
 obtain ⟨a,n,d,e,ha,r⟩:=h
 exact ⟨a,n,d,e,k.tup ha,r⟩
theorem AbP.back {H H':Hp} {x:V} (t:Th H x) (k:Kp H H') (h:AbP H' x):AbP H x:=by
 obtain ⟨a,n,d,e,ha,r⟩:=h
 exact ⟨a,n,d,e,G1.back t k e ha,r⟩
theorem abB_kp {H H':Hp} {x:V} (t:Th H x) (k:Kp H H'):abB H' x=abB H x:=by
 by_cases h:AbP H x
 ·rw [abB_t h,abB_t (h.kp k)]
 ·rw [abB_f h,abB_f fun z=>h (z.back t k)]
theorem ThD.kp {H H':Hp} {x:V} (h:ThD H x) (k:Kp H H'):ThD H' x:=
 ⟨h.th.kp k,fun a xs e e' y hy=>(h.parts a xs e (G1.back h.th k e e') y hy).kp k,fun a n d e e'=>h.few a n d e (G1.back h.th k e e'),h.str⟩
def RowP (H:Hp) (y:V) (c:Nat):Prop:=∃a p l,y = .ref a∧H a=some (.tup [.str (sg1 c),p,l])∧occ c=true∧AbP H p∧(l = .non∨AbP H l)
noncomputable def rowB (H:Hp) (y:V):Bool:=@decide (∃c,RowP H y c) (Classical.propDecidable _)
theorem rowB_t {H:Hp} {y:V} {c:Nat} (h:RowP H y c):rowB H y=true:=by unfold rowB; exact @decide_eq_true _ (Classical.propDecidable _) ⟨c,h⟩
theorem rowB_f {H:Hp} {y:V} (h:∀c,¬RowP H y c):rowB H y=false:=by unfold rowB; exact @decide_eq_false _ (Classical.propDecidable _) fun ⟨c,z⟩=>h c z
theorem rowB_of {H:Hp} {y:V} (h:rowB H y=true):∃c,RowP H y c:=by unfold rowB at h; exact @of_decide_eq_true _ (Classical.propDecidable _) h
structure ThR (H:Hp) (y:V):Prop where
 th:Th H y
 parts:∀a xs,y = .ref a→H a=some (.tup xs)→∀z∈xs,ThD H z
theorem ThR.kp {H H':Hp} {x:V} (h:ThR H x) (k:Kp H H'):ThR H' x:=
 ⟨h.th.kp k,fun a xs e e' y hy=>(h.parts a xs e (G1.back h.th k e e') y hy).kp k⟩
theorem RowP.kp {H H':Hp} {y:V} {c:Nat} (h:RowP H y c) (k:Kp H H'):RowP H' y c:=by
 obtain ⟨a,p,l,e,ha,oc,hp,hl⟩:=h
 exact ⟨a,p,l,e,k.tup ha,oc,hp.kp k,hl.imp id fun z=>z.kp k⟩
theorem RowP.back {H H':Hp} {y:V} {c:Nat} (t:ThR H y) (k:Kp H H') (h:RowP H' y c):RowP H y c:=by
 obtain ⟨a,p,l,e,ha,oc,hp,hl⟩:=h
 have ha':=G1.back t.th k e ha
 have tp:=t.parts a _ e ha' p (by simp)
 have tl:=t.parts a _ e ha' l (by simp)
 exact ⟨a,p,l,e,ha',oc,hp.back tp.th k,hl.imp id fun z=>z.back tl.th k⟩
theorem rowB_kp {H H':Hp} {x:V} (t:ThR H x) (k:Kp H H'):rowB H' x=rowB H x:=by
 by_cases h:∃c,RowP H x c
 ·obtain ⟨c,h⟩:=h
  rw [rowB_t h,rowB_t (h.kp k)]
 ·rw [rowB_f fun c z=>h ⟨c,z⟩,rowB_f fun c z=>h ⟨c,z.back t k⟩]
structure RowsP (H:Hp) (xs:List V) (cs:List Nat):Prop where
 len:xs.length=cs.length
 row:∀(i:Nat) (x:V) (c:Nat),xs[i]? = some x→cs[i]? = some c→RowP H x c
theorem RowsP.kp {H H':Hp} {xs:List V} {cs:List Nat} (h:RowsP H xs cs) (k:Kp H H'):RowsP H' xs cs:=⟨h.len,fun i x c e1 e2=>(h.row i x c e1 e2).kp k⟩
theorem RowsP.at {H:Hp} {xs:List V} {cs:List Nat} {i:Nat} {x:V} (h:RowsP H xs cs) (e:xs[i]? = some x):∃c,cs[i]? = some c∧RowP H x c:=by
 have hi:i < cs.length:=by rw [← h.len]; exact (List.getElem?_eq_some_iff.mp e).1
 exact ⟨cs[i],List.getElem?_eq_getElem hi,h.row i x _ e (List.getElem?_eq_getElem hi)⟩
structure ThU (H:Hp) (x:V):Prop where
 th:Th H x
 els:∀a xs,x = .ref a→H a=some (.lst xs)→∀y∈xs,Th H y
theorem ThU.kp {H H':Hp} {x:V} (h:ThU H x) (k:Kp H H'):ThU H' x:=
 ⟨h.th.kp k,fun a xs e e' y hy=>(h.els a xs e (G1.back h.th k e e') y hy).kp k⟩
def UnlP (H:Hp) (x:V) (ks ts:List Str):Prop:=∃L,x = .ref L∧H L=some (.lst (txs ts))∧ts.Nodup∧∀t∈ts,t∈ks
noncomputable def unlB (H:Hp) (x:V) (ks:List Str):Bool:=@decide (∃ts,UnlP H x ks ts) (Classical.propDecidable _)
theorem unlB_t {H:Hp} {x:V} {ks ts:List Str} (h:UnlP H x ks ts):unlB H x ks=true:=by unfold unlB; exact @decide_eq_true _ (Classical.propDecidable _) ⟨ts,h⟩
theorem unlB_f {H:Hp} {x:V} {ks:List Str} (h:∀ts,¬UnlP H x ks ts):unlB H x ks=false:=by unfold unlB; exact @decide_eq_false _ (Classical.propDecidable _) fun ⟨c,z⟩=>h c z
theorem UnlP.kp {H H':Hp} {x:V} {ks ts:List Str} (h:UnlP H x ks ts) (k:Kp H H'):UnlP H' x ks ts:=by
 obtain ⟨L,e,hL,r⟩:=h
 exact ⟨L,e,k.lst hL,r⟩
theorem txs_inj:∀{a b:List Str},txs a=txs b→a=b
 | [],[],_=>rfl
 | x :: a,y :: b,h=>by
  have h:V.str x :: txs a=V.str y :: txs b:=h
  injection h with h1 h2
  injection h1 with h1
  rw [h1,txs_inj h2]
 | [],_ :: _,h=>by cases h
 | _ :: _,[],h=>by cases h
section
variable {P:Program} {w:World} {K:PySem.W.Frag} {mg:Str→Option Value} {base:Heap}
def spLetterG (T:Addr):Sp:=fun vs H Q _=>∃x,vs=[x]∧Th H x∧(∀z,x = .str z→z.length≤sizeLine)∧Tab T H∧∀H',Kp H H'→TbK H H'→Q (.bl (letB x)) H'
theorem scLeG:FnScope ["thing"] ["thing"] (defScope sLetter):=⟨rfl,rfl,rfl,by decide +kernel,rfl,by decide +kernel,by decide +kernel⟩
theorem ok_letterG {T:Addr} {f fN:Addr} {fd fdN:FuncData} (F:FunG K "is_letter" "is_letter" sLetter .none f fd) (B:Bl mg)
  (GN:FnOk P w K mg base (CXE P w) 2 fN fdN ["thing"] (spName T)) (mN:mg "is_name" = some (.ref fN)) (kN:PySem.W.keepIn K (.ref fN)=true) (bN:Binds K fdN ["thing"] []):FnOk P w K mg base (CXE P w) 3 f fd ["thing"] (spLetterG T):=by
 refine F.zokN scLeG (fun vs H Q E h=>?_) (fun cdv A outer s H vs Q E hr h=>?_)
 ·obtain ⟨x,rfl,_⟩:=h
  rfl
 ·obtain ⟨x,rfl,hx,sl,ht,q⟩:=h
  refine ⟨_,(zpss_one (zps_ret (zpe_and (zpe_call GN hr (by rfl) mN kN bN .nil passE0 (zpac_n (zpv 0) zpa_nil)) (zpe_one (zpe_cmpR op_eq (zpe_callB call_len_str (by rfl) B.len PySem.boot_len (zpac_n (zpv 0) zpa_nil)) zpe_int (nomark _)))))),?_⟩
  obtain ⟨ps,hT,tr⟩:=id ht
  refine ⟨_,rfl,x,ps,rfl,hx,sl,hT,tr,fun ps' tr'=>⟨_,rfl,?_⟩⟩
  have q':=q _ (Kp.tab ht) (TbK.tab tr')
  by_cases hn:nameB x=true
  ·rw [hn]
   cases x with
   | str z=>
    refine iteT ⟨_,rfl,z,rfl,sl z rfl,rfl,?_⟩
    have e:letB (.str z)=decide (V.int (z.length:Nat)=V.int 1):=by
     unfold letB
     rw [hn,dec_int]
     simp only [Bool.true_and]
     by_cases l:z.length=1
     ·rw [decide_eq_true l]; rw [l]; rfl
     ·rw [decide_eq_false l]
      have:((z.length:Nat):Int)≠1:=by omega
      exact (beq_eq_false_iff_ne.mpr this).symm
    rw [e] at q'
    exact q'
   | _=>cases hn
  ·have hn:nameB x=false:=by simpa using hn
   have e:letB x=false:=by unfold letB; rw [hn]; rfl
   rw [hn]
   rw [e] at q'
   exact iteF q'
def spAboveG:Sp:=fun vs H Q _=>∃x,vs=[x]∧ThD H x∧Q (.bl (abB H x)) H
theorem scAbG:FnScope ["thing"] ["thing"] (defScope sAbove):=⟨rfl,rfl,rfl,by decide +kernel,rfl,by decide +kernel,by decide +kernel⟩
theorem ok_aboveG {f fF:Addr} {fd fdF:FuncData} (F:FunG K "is_above_nought" "is_above_nought" sAbove .none f fd)
  (GF:FnOk P w K mg base (CXE P w) 2 fF fdF ["thing"] spIsF) (mF:mg "is_fraction" = some (.ref fF)) (kF:PySem.W.keepIn K (.ref fF)=true) (bF:Binds K fdF ["thing"] []):FnOk P w K mg base (CXE P w) 3 f fd ["thing"] spAboveG:=by
 refine F.zokN scAbG (fun vs H Q E h=>?_) (fun cdv A outer s H vs Q E hr h=>?_)
 ·obtain ⟨x,rfl,_⟩:=h
  rfl
 ·obtain ⟨x,rfl,hx,q⟩:=h
  refine ⟨_,(zpss_one (zps_ret (zpe_and (zpe_call GF hr (by rfl) mF kF bF .nil passE0 (zpac_n (zpv 0) zpa_nil)) (zpe_one (zpe_cmpR op_gt (zpe_ix ix_tup (zpv 0) zpe_int (fun _ _=>rfl)) zpe_int (nomark _)))))),?_⟩
  refine ⟨_,rfl,x,rfl,hx,_,rfl,?_⟩
  by_cases hf:FrP H x
  ·rw [frB_t hf]
   obtain ⟨a,n,d,rfl,ha,d0,g⟩:=id hf
   refine iteT ⟨_,rfl,a,_,_,_,rfl,rfl,SqT.of ha,rfl,_,_,rfl,rfl,?_⟩
   have e:abB H (.ref a)=decide ((0:Int) < n):=by
    by_cases n0:0 < n
    ·rw [decide_eq_true n0,abB_t ⟨a,n,d,rfl,ha,n0,d0,g⟩]
    ·rw [decide_eq_false n0,abB_f fun ⟨a',n',d',e,h',z,_⟩=>by
      cases e
      rw [ha] at h'; cases h'
      exact n0 z]
   rw [e] at q
   exact q
  ·rw [frB_f hf]
   rw [abB_f fun ⟨a,n,d,e,h,n0,d0,g⟩=>hf ⟨a,n,d,e,h,d0,g⟩] at q
   exact iteF q
def spRowG (T:Addr):Sp:=fun vs H Q _=>∃y,vs=[y]∧ThR H y∧Tab T H∧∀H',Kp H H'→TbK H H'→Q (.bl (rowB H y)) H'
theorem three_of {xs:List V} (h:xs.length=3):∃x y z,xs=[x,y,z]:=by
 match xs,h with
 | [x,y,z],_=>exact ⟨x,y,z,rfl⟩
theorem four_of {xs:List V} (h:xs.length=4):∃x y z u,xs=[x,y,z,u]:=by
 match xs,h with
 | [x,y,z,u],_=>exact ⟨x,y,z,u,rfl⟩
theorem scRoG:FnScope ["thing","sign","price","last"] ["thing"] (defScope sRow):=⟨rfl,rfl,rfl,by decide +kernel,rfl,by decide +kernel,by decide +kernel⟩
theorem ok_rowG {T:Addr} {f fL fA:Addr} {fd fdL fdA:FuncData} (F:FunG K "is_sign_row" "is_sign_row" sRow .none f fd) (B:Bl mg)
  (GL:FnOk P w K mg base (CXE P w) 3 fL fdL ["thing"] (spLetterG T)) (mL:mg "is_letter" = some (.ref fL)) (kL:PySem.W.keepIn K (.ref fL)=true) (bL:Binds K fdL ["thing"] [])
  (GA:FnOk P w K mg base (CXE P w) 3 fA fdA ["thing"] spAboveG) (mA:mg "is_above_nought" = some (.ref fA)) (kA:PySem.W.keepIn K (.ref fA)=true) (bA:Binds K fdA ["thing"] []):FnOk P w K mg base (CXE P w) 4 f fd ["thing"] (spRowG T):=by
 refine F.zokN scRoG (fun vs H Q E h=>?_) (fun cdv A outer s H vs Q E hr h=>?_)
 ·obtain ⟨x,rfl,_⟩:=h
  rfl
 ·obtain ⟨x,rfl,hx,ht,q⟩:=h
  refine ⟨_,(zpss_cons (zps_if (SPW.pt (zpw_or (zpt_not (zpt_val (zpe_callB call_isi (by rfl) B.isi boot_isi (zpac_n (zpv 0) (zpac_n (zpe_bltn (by rfl) B.tuple boot_tuple (v:=.ty "tuple") rfl) zpa_nil))))) (zpw_or1 (zpt_cmpR op_ne (zpe_callB call_len_seq (by rfl) B.len PySem.boot_len (zpac_n (zpv 0) zpa_nil)) zpe_int (nomark _))))) (zpss_one (zps_ret zpe_bl)) zpss_nil)
   (zpss_cons (zps_asg (zpv 0) (zpg_tup rfl (zpgs_cons (zpg_name (i:=1) scRoG.nd rfl (Or.inl rfl)) (zpgs_cons (zpg_name (i:=2) scRoG.nd rfl (Or.inl rfl)) (zpgs_cons (zpg_name (i:=3) scRoG.nd rfl (Or.inl rfl)) zpgs_nil)))))
   (zpss_one (zps_ret (zpe_and (zpe_call GL hr (by rfl) mL kL bL .nil passE0 (zpac_n (zpv 1) zpa_nil)) (zpe_and (zpe_call GA hr (by rfl) mA kA bA .nil passE0 (zpac_n (zpv 2) zpa_nil)) (zpe_one (zpe_or (zpe_cmpR op_isN (zpv 3) zpe_non (nomark _)) (zpe_one (zpe_call GA hr (by rfl) mA kA bA .nil passE0 (zpac_n (zpv 3) zpa_nil))))))))))),?_⟩
  have q0:=q _ Kp.refl TbK.refl
  refine ⟨_,rfl,_,_,_,_,rfl,hx.th.tyQ,.inl ⟨_,rfl,kit_tup hx.th⟩,_,rfl,?_⟩
  by_cases ty:tyN H x = "tuple"
  ·rw [decide_eq_true ty]
   obtain ⟨a,xs,rfl,ha⟩:=hx.th.isTup ty
   refine iteF ⟨_,rfl,a,_,rfl,.inr (SqT.of ha),rfl,_,rfl,?_⟩
   refine ite2 (fun e=>?_) (fun e=>?_)
   ·rw [rowB_f (by
     rintro c ⟨a',p,l,e',h',_⟩
     cases e'
     rw [ha] at h'; cases h'
     simp at e)] at q0
    exact q0
   ·have l3:xs.length=3:=by
     by_cases z:xs.length=3
     ·exact z
     ·exfalso
      apply e
      simp
      omega
    obtain ⟨sg,p,l,rfl⟩:=three_of l3
    have ts:=hx.parts a _ rfl ha sg (by simp)
    have tp:=hx.parts a _ rfl ha p (by simp)
    have tl:=hx.parts a _ rfl ha l (by simp)
    refine ⟨_,rfl,a,_,rfl,SqT.of ha,rfl,_,_,rfl,_,_,rfl,_,_,rfl,rfl,?_⟩
    refine ⟨_,rfl,sg,rfl,ts.th,ts.str,ht,fun H1 k1 t1=>⟨_,rfl,?_⟩⟩
    have q1:=q _ k1 t1
    by_cases hl:letB sg=true
    ·rw [hl]
     refine iteT ⟨_,rfl,p,rfl,tp.kp k1,_,rfl,?_⟩
     rw [abB_kp tp.th k1]
     obtain ⟨c,rfl,oc⟩:=letB_str hl
     by_cases hp:AbP H p
     ·rw [abB_t hp]
      refine iteT ⟨_,rfl,rfl,_,rfl,?_⟩
      by_cases ln:l = .non
      ·subst ln
       rw [rowB_t ⟨a,p,.non,rfl,ha,oc,hp,.inl rfl⟩] at q1
       exact iteT q1
      ·rw [decide_eq_false ln]
       refine iteF ⟨_,rfl,l,rfl,tl.kp k1,?_⟩
       rw [abB_kp tl.th k1]
       by_cases hl2:AbP H l
       ·rw [abB_t hl2]
        rw [rowB_t ⟨a,p,l,rfl,ha,oc,hp,.inr hl2⟩] at q1
        exact q1
       ·rw [abB_f hl2]
        rw [rowB_f (by
         rintro c' ⟨a',p',l',e',h',_,_,z⟩
         cases e'
         rw [ha] at h'; cases h'
         exact z.elim ln hl2)] at q1
        exact q1
     ·rw [abB_f hp]
      rw [rowB_f (by
       rintro c' ⟨a',p',l',e',h',_,z,_⟩
       cases e'
       rw [ha] at h'; cases h'
       exact hp z)] at q1
      exact iteF q1
    ·have hl':letB sg=false:=by simpa using hl
     rw [hl']
     rw [rowB_f (by
      rintro c' ⟨a',p',l',e',h',oc,_⟩
      cases e'
      rw [ha] at h'; cases h'
      exact hl (letB_sg1 oc))] at q1
     exact iteF q1
  ·rw [decide_eq_false ty]
   refine iteT (iteT ?_)
   rw [rowB_f (by
    rintro c ⟨a',p,l,e',h',_⟩
    subst e'
    exact ty (tyN_tup h'))] at q0
   exact q0
end
end G1
namespace L2
open PySem
def isS:V→Bool
 | .str _=>true
 | _=>false
theorem kit_str {K:PySem.W.Frag} {H:Hp} {x:V} (h:Th H x):PySem.W.kitOne K (.type (tyN H x)) (.type "str")=some (isS x):=by
 cases h with
 | lst h=>rw [tyN_lst h]; kernel_rfl
 | tup h=>rw [tyN_tup h]; kernel_rfl
 | dK h=>rw [tyN_dK h]; kernel_rfl
 | _=>kernel_rfl
end L2
namespace G1
open PySem L2 GM
def insAll:List Str→List Str
 | ts=>ts.foldl (fun s t=>insT t s) []
theorem ins_nd {t:Str} {s:List Str} (h:t∉s):insT t s=s ++ [t]:=by unfold insT; rw [if_neg h]
theorem ins_in {t:Str} {s:List Str} (h:t∈s):insT t s=s:=by unfold insT; rw [if_pos h]
theorem fold_ins:∀(ts s:List Str),(ts.foldl (fun s t=>insT t s) s).length≤s.length + ts.length∧(s.Nodup→((ts.foldl (fun s t=>insT t s) s).length=s.length + ts.length↔(s ++ ts).Nodup))
 | [],s=>⟨by simp,fun h=>by simpa using h⟩
 | t :: ts,s=>by
  show (ts.foldl _ (insT t s)).length≤_∧(_→((ts.foldl _ (insT t s)).length=_↔_))
  by_cases h:t∈s
  ·rw [ins_in h]
   obtain ⟨a,_⟩:=fold_ins ts s
   refine ⟨by rw [List.length_cons]; omega,fun nd=>⟨fun e=>by rw [List.length_cons] at e; omega,fun n=>?_⟩⟩
   exact absurd h fun m=>(List.nodup_append.mp n).2.2 t m t (by simp) rfl
  ·rw [ins_nd h]
   obtain ⟨a,b⟩:=fold_ins ts (s ++ [t])
   rw [List.length_append] at a b
   refine ⟨by rw [List.length_cons]; simp at a; omega,fun nd=>?_⟩
   have nd':(s ++ [t]).Nodup:=List.nodup_append.mpr ⟨nd,by simp,fun x hx y hy e=>by rw [List.mem_singleton.mp hy] at e; rw [e] at hx; exact h hx⟩
   have:=b nd'
   have e1:s ++ t :: ts=s ++ [t] ++ ts:=by simp
   rw [e1,show s.length + (t :: ts).length=s.length + [t].length + ts.length by simp; omega]
   exact this
theorem ins_len {ts:List Str}:(insAll ts).length≤ts.length∧((insAll ts).length=ts.length↔ts.Nodup):=by
 obtain ⟨a,b⟩:=fold_ins ts []
 simp only [List.length_nil,Nat.zero_add,List.nil_append] at a b
 exact ⟨a,b List.nodup_nil⟩
theorem insAll_snoc {ts:List Str} {i:Nat} {t:Str} (e:ts[i]? = some t):insAll (ts.take (i + 1))=insT t (insAll (ts.take i)):=by
 unfold insAll
 rw [List.take_add_one,e,List.foldl_append]; rfl
theorem sgs_nodup {cs:List Nat}:(sgs cs).Nodup↔cs.Nodup:=by
 unfold sgs
 constructor
 ·intro h
  exact List.Pairwise.of_map _ (fun a b n e=>n (by rw [e])) h
 ·intro h
  exact List.Pairwise.map _ (fun a b n e=>n (sg1_inj e)) h
structure ThS (H:Hp) (x:V):Prop where
 th:Th H x
 rows:∀a xs,x = .ref a→H a=some (.lst xs)→∀y∈xs,ThR H y
theorem ThS.kp {H H':Hp} {x:V} (h:ThS H x) (k:Kp H H'):ThS H' x:=
 ⟨h.th.kp k,fun a xs e e' y hy=>(h.rows a xs e (G1.back h.th k e e') y hy).kp k⟩
def SigP (H:Hp) (x:V) (cs:List Nat):Prop:=∃S xs,x = .ref S∧H S=some (.lst xs)∧RowsP H xs cs∧cs.Nodup∧2≤cs.length∧cs.length≤6
noncomputable def sigB (H:Hp) (x:V):Bool:=@decide (∃cs,SigP H x cs) (Classical.propDecidable _)
theorem sigB_t {H:Hp} {x:V} {cs:List Nat} (h:SigP H x cs):sigB H x=true:=by unfold sigB; exact @decide_eq_true _ (Classical.propDecidable _) ⟨cs,h⟩
theorem sigB_f {H:Hp} {x:V} (h:∀cs,¬SigP H x cs):sigB H x=false:=by unfold sigB; exact @decide_eq_false _ (Classical.propDecidable _) fun ⟨c,z⟩=>h c z
theorem SigP.kp {H H':Hp} {x:V} {cs:List Nat} (h:SigP H x cs) (k:Kp H H'):SigP H' x cs:=by
 obtain ⟨S,xs,e,hS,r,z⟩:=h
 exact ⟨S,xs,e,k.lst hS,r.kp k,z⟩
theorem RowP.inj {H:Hp} {y:V} {c d:Nat} (h:RowP H y c) (h':RowP H y d):c=d:=by
 obtain ⟨a,p,l,rfl,ha,_⟩:=h
 obtain ⟨a',p',l',e,ha',_⟩:=h'
 cases e
 rw [ha] at ha'; cases ha'; rfl
theorem RowsP.inj {H:Hp} {xs:List V} {cs ds:List Nat} (h:RowsP H xs cs) (h':RowsP H xs ds):cs=ds:=by
 apply List.ext_getElem?
 intro i
 by_cases il:i < xs.length
 ·have e:=List.getElem?_eq_getElem il
  obtain ⟨c,e1,r1⟩:=h.at e
  obtain ⟨d,e2,r2⟩:=h'.at e
  rw [e1,e2,r1.inj r2]
 ·have:=h.len; have:=h'.len
  rw [List.getElem?_eq_none (by omega),List.getElem?_eq_none (by omega)]
theorem rows_of {H:Hp}:∀{xs:List V},(∀x∈xs,rowB H x=true)→∃cs,RowsP H xs cs
 | [],_=>⟨[],rfl,fun i x c e=>by simp at e⟩
 | x :: xs,h=>by
  obtain ⟨cs,r⟩:=rows_of (xs:=xs) fun y hy=>h y (List.mem_cons_of_mem _ hy)
  obtain ⟨c,rc⟩:=rowB_of (h x List.mem_cons_self)
  refine ⟨c :: cs,by rw [List.length_cons,List.length_cons,r.len],fun i y d e1 e2=>?_⟩
  cases i with
  | zero=>cases (Option.some.inj e1); cases (Option.some.inj e2); exact rc
  | succ i=>exact r.row i y d e1 e2
section
variable {P:Program} {w:World} {K:PySem.W.Frag} {mg:Str→Option Value} {base:Heap}
def spSignsOfG (K:PySem.W.Frag):Sp:=fun vs H Q _=>∃(t S:Addr) (f p lg:V) (xs:List V) (cs:List Nat),vs=[.ref t]∧SqT K H t [.ref S,f,p,lg]∧H S=some (.lst xs)∧RowsP H xs cs∧cs.length≤6∧∀l H',H l=none→Same H H'→H' l=some (.lst (txs (sgs cs)))→Q (.ref l) H'
theorem scSoG:FnScope ["tongue"] ["tongue"] (defScope sSignsOf):=⟨rfl,rfl,rfl,by decide +kernel,rfl,by decide +kernel,by decide +kernel⟩
theorem ok_signsOfG {f:Addr} {fd:FuncData} (F:FunG K "signs_of" "signs_of" sSignsOf .none f fd):FnOk P w K mg base (CXE P w) 1 f fd ["tongue"] (spSignsOfG K):=by
 refine F.zokN scSoG (fun vs H Q E h=>?_) (fun cdv A outer s H vs Q E hr h=>?_)
 ·obtain ⟨t,S,f,p,lg,xs,cs,rfl,_⟩:=h
  rfl
 ·obtain ⟨t,S,f,p,lg,xs,cs,rfl,ht,hS,rows,c6,q⟩:=h
  refine ⟨_,(zpss_one (zps_ret (zpe_compL ["tongue"] ["row"] [] (defScope sSignsOf) rfl rfl rfl ⟨by decide +kernel,by decide +kernel,by decide +kernel,by decide +kernel,by decide +kernel⟩ (zpi_list (zpe_ix ix_tup (zpv 0) zpe_int (fun _ _=>rfl))) (fun s H fp=>(zpg_name (i:=0) (show List.Nodup [("row" : Str)] by decide +kernel) rfl (Or.inl rfl))) (fun s H fp=>zpts_nil) (fun s H fp=>(zpe_ix (ix_tupK K rfl) (zpv 0) zpe_int (fun _ _=>rfl)))))),?_⟩
  refine ⟨_,rfl,t,_,_,_,rfl,rfl,ht,rfl,S,rfl,⟨_,SqL.of hS⟩,?_⟩
  (intro l hl; generalize hEq:upd _ l _=H1; refine newC hEq hl ?_; clear hEq; intro S1 e1 o1)
  refine lr_list (K:=K) (S:=S) (xs:=xs) (fun i σ H2=>(∃v,σ=[v])∧H2 l=some (.lst (txs (sgs (cs.take i))))∧Same H H2) ⟨⟨_,rfl⟩,e1,S1⟩ (fun i σ H2 p=>SqL.of (p.2.2 _ _ hS)) ?_ ?_
  ·rintro i x σ H2 C hi ⟨⟨v,rfl⟩,hl2,s2⟩ nx
   obtain ⟨cc,hc,row⟩:=rows.at hi
   obtain ⟨a,p,la,rfl,ha,_⟩:=row
   refine ⟨_,rfl,a,_,_,_,rfl,rfl,SqT.of (s2 _ _ ha),rfl,_,hl2,?_,nx _ _ ⟨⟨_,rfl⟩,?_,fun b o hb=>?_⟩⟩
   ·unfold txs sgs
    rw [List.length_map,List.length_map,List.length_take]
    exact Nat.lt_of_le_of_lt (show min i cs.length≤6 by omega) (by decide)
   ·have:txs (sgs (cs.take i)) ++ [V.str (sg1 cc)]=txs (sgs (cs.take (i + 1))):=by
     unfold txs sgs
     rw [List.take_add_one,hc,List.map_append,List.map_append]; rfl
    rw [← this]; exact upd_same
   ·rw [upd_ne (ne_of_none hb hl)]; exact s2 b o hb
  ·rintro σ H2 ⟨_,hl2,s2⟩
   rw [List.take_of_length_le (by rw [rows.len]; exact Nat.le_refl _)] at hl2
   exact q l H2 hl s2 hl2
def spUnlikeG:Sp:=fun vs H Q _=>∃(C:Addr) (x:V) (ks:List Str),vs=[.ref C,x]∧H C=some (.lst (txs ks))∧ks.length≤100∧ThU H x∧∀H',Same H H'→Q (.bl (unlB H x ks)) H'
theorem scUlG:FnScope ["choices","thing","seen","text"] ["choices","thing"] (defScope sUnlike):=⟨rfl,rfl,rfl,by decide +kernel,rfl,by decide +kernel,by decide +kernel⟩
theorem ok_unlikeG {f:Addr} {fd:FuncData} (F:FunG K "are_unlike_texts_of" "are_unlike_texts_of" sUnlike .none f fd) (B:Bl mg):FnOk P w K mg base (CXE P w) 1 f fd ["choices","thing"] spUnlikeG:=by
 refine F.zokN scUlG (fun vs H Q E h=>?_) (fun cdv A outer s H vs Q E hr h=>?_)
 ·obtain ⟨C,x,ks,rfl,_⟩:=h
  rfl
 ·obtain ⟨C,x,ks,rfl,hC,kl,hx,q⟩:=h
  refine ⟨_,(zpss_cons (zps_if (zpt_not (zpt_val (zpe_callB call_isi (by rfl) B.isi boot_isi (zpac_n (zpv 1) (zpac_n (zpe_bltn (by rfl) B.list boot_list (v:=.ty "list") rfl) zpa_nil))))) (zpss_one (zps_ret zpe_bl)) zpss_nil)
   (zpss_cons (zps_set (i:=2) scUlG.nd rfl (Or.inl rfl) (zpe_callTy0 call_set0 (by rfl) B.set boot_set))
   (zpss_cons (zps_for PassesOwn.never rfl (zpi_list (zpv 1)) (zpg_name (i:=3) scUlG.nd rfl (Or.inl rfl))
     (zpss_cons (zps_if (SPW.pt (zpw_or (zpt_not (zpt_val (zpe_callB call_isi (by rfl) B.isi boot_isi (zpac_n (zpv 3) (zpac_n (zpe_bltn (by rfl) B.str boot_str (v:=.ty "str") rfl) zpa_nil))))) (zpw_or (zpt_cmpR op_notIn_seq (zpv 3) (zpv 0) rfl) (zpw_or1 (zpt_cmpR op_in_set (zpv 3) (zpv 2) rfl))))) (zpss_one (zps_ret zpe_bl)) zpss_nil)
   (zpss_one (zps_expr (zpe_setadd (zpv 2) (zpac_n (zpv 3) zpa_nil))))))
   (zpss_one (zps_ret zpe_bl))))),?_⟩
  refine ⟨_,rfl,_,_,_,_,rfl,hx.th.tyQ,.inl ⟨_,rfl,kit_lst hx.th⟩,_,rfl,?_⟩
  by_cases ty:tyN H x = "list"
  ·rw [decide_eq_true ty]
   obtain ⟨L,xs,rfl,hL⟩:=hx.th.isLst ty
   refine iteF ⟨rfl,fun p hp=>?_⟩
   refine ⟨_,rfl,L,rfl,⟨_,SqL.of (same_upd hp _ _ hL)⟩,for_list (K:=K) (a:=L) (xs:=xs)
    (fun i σ H2=>(∃v,σ=[some (.ref C),some (.ref L),some (.ref p),v])∧Same H H2∧∃ts,H2 p=some (SetT P w p ts)∧xs.take i=txs ts∧ts.Nodup∧∀t∈ts,t∈ks) ⟨⟨_,rfl⟩,same_upd hp,[],upd_same,rfl,List.nodup_nil,nofun⟩ ?_ ?_ ?_⟩
   ·rintro i σ H2 _ ⟨_,s2,_⟩
    exact SqL.of (s2 _ _ hL)
   ·rintro i y σ H2 hy ⟨⟨v,rfl⟩,s2,ts,hp2,etk,nd,sub⟩
    have hty:=(hx.els L xs rfl hL y (List.mem_of_getElem? hy))
    have ilt:=(List.getElem?_eq_some_iff.mp hy).1
    have tl:ts.length≤ks.length:=nodup_le nd sub
    have bad:(∀t,y = .str t→t∉ks∨t∈ts)→Q (V.bl false) H2:=fun h=>by
     have e:unlB H (.ref L) ks=false:=unlB_f fun us ⟨L',eL,hL',nd',sub'⟩=>by
      cases eL
      rw [hL] at hL'; cases hL'
      unfold txs at hy
      rw [List.getElem?_map] at hy
      obtain ⟨u,hu,rfl⟩:=Option.map_eq_some_iff.mp hy
      have et:us.take i=ts:=txs_inj (by rw [← etk]; unfold txs; rw [List.map_take])
      rcases h u rfl with z | z
      ·exact z (sub' u (List.mem_of_getElem? hu))
      ·rw [← et] at z
       exact take_freshT nd' hu z
     have:=q H2 s2
     rw [e] at this
     exact this
    refine ⟨_,rfl,_,_,_,_,rfl,(hty.kp (Kp.same s2)).tyQ,.inl ⟨_,rfl,kit_str (hty.kp (Kp.same s2))⟩,_,rfl,?_⟩
    cases y with
    | str t=>
     refine iteF ?_
     refine ⟨_,rfl,_,rfl,C,_,rfl,.inl (SqL.of (s2 _ _ hC)),rfl,txs_flat ks,_,rfl,?_⟩
     rw [inV_txs]
     by_cases m1:t∈ks
     ·rw [decide_eq_true m1]
      refine iteF ⟨_,rfl,_,rfl,t,p,_,rfl,rfl,hp2,_,rfl,?_⟩
      by_cases m2:t∈ts
      ·rw [decide_eq_true m2]
       exact iteT (bad fun z e=>by injection e with e; exact .inr (e ▸ m2))
      ·rw [decide_eq_false m2]
       refine iteF ⟨_,rfl,⟨p,_,rfl,hp2⟩,_,rfl,p,t,_,rfl,rfl,hp2,by omega,?_⟩
       refine ⟨⟨_,rfl⟩,fun b o hb=>?_,ts ++ [t],?_,?_,?_,?_⟩
       ·rw [upd_ne (ne_of_none hb hp)]; exact s2 b o hb
       ·rw [ins_nd m2]; exact upd_same
       ·rw [List.take_add_one,hy,etk]; unfold txs; rw [List.map_append]; rfl
       ·exact List.nodup_append.mpr ⟨nd,by simp,fun a ha b hb e=>by rw [List.mem_singleton.mp hb] at e; rw [e] at ha; exact m2 ha⟩
       ·intro z hz
        rcases List.mem_append.mp hz with z1 | z1
        ·exact sub z z1
        ·rw [List.mem_singleton.mp z1]; exact m1
     ·rw [decide_eq_false m1]
      exact iteT (iteT (bad fun z e=>by injection e with e; exact .inl (e ▸ m1)))
    | _=>exact iteT (iteT (bad nofun))
   ·rintro σ H2 ⟨⟨v,rfl⟩,s2,ts,_,etk,nd,sub⟩
    rw [List.take_length] at etk
    have:=q H2 s2
    rw [unlB_t ⟨L,rfl,etk ▸ hL,nd,sub⟩] at this
    exact this
  ·rw [decide_eq_false ty]
   have:=q H (Same.refl _)
   rw [unlB_f fun ts ⟨L,e,h,_⟩=>ty (by rw [e]; exact tyN_lst h)] at this
   exact iteT this
def spSignsG (T1 T2:Addr):Sp:=fun vs H Q _=>∃x,vs=[x]∧ThS H x∧Tab T1 H∧Tab T2 H∧∀H',Kp H H'→TbK H H'→Q (.bl (sigB H x)) H'
theorem ok_signsG {T1 T2 f c fR:Addr} {fdR:FuncData} {kV doc pm ct oc:Value} {an od:Option Addr} {osl:Array (Option Value)} {t1 t2:Tok}
  (lk:K.lookup f=some ⟨oc,od,.func (PySem.W.fnOf "are_signs" "are_signs" (defArgs sSigns) (defBody sSigns) (defScope sSigns) .none kV doc pm an (.ref c) ct),osl⟩) (hcd:PySem.W.codeIn K (.ref c) "are_signs" = true)
  (B:Bl mg) (CK:CodeK K c T2) (hbm:BmOf mg base) (mF:mg "FEWEST_SIGNS" = some (.int 2 t1)) (mM:mg "MOST_SIGNS" = some (.int 6 t2))
  (GR:FnOk P w K mg base (CXE P w) 4 fR fdR ["thing"] (spRowG T1)) (mR:mg "is_sign_row" = some (.ref fR)) (kR:PySem.W.keepIn K (.ref fR)=true) (bR:Binds K fdR ["thing"] []) :
  FnOk P w K mg base (CXE P w) 6 f (PySem.W.fnOf "are_signs" "are_signs" (defArgs sSigns) (defBody sSigns) (defScope sSigns) .none kV doc pm an (.ref c) ct) ["thing"] (spSignsG T1 T2):=by
 refine okC lk hcd scSi (fun vs H Q E h=>?_) (fun A outer s H vs Q E hr h=>?_)
 ·obtain ⟨x,rfl,_⟩:=h
  rfl
 ·obtain ⟨x,rfl,hx,ht1,ht2,q⟩:=h
  refine ⟨_,zpss_cons (zps_if (zpw_or (zpt_not (zpt_val (zpe_callB call_isi (by rfl) B.isi boot_isi (zpac_n (zpv 0) (zpac_n (zpe_bltn (by rfl) B.list boot_list (v:=.ty "list") rfl) zpa_nil)))))
    (zpw_or (zpt_cmpR op_lt (zpe_callB call_len_seq (by rfl) B.len PySem.boot_len (zpac_n (zpv 0) zpa_nil)) (zpe_glob (by rfl) mF (v:=.int 2) ⟨_,rfl⟩) (nomark _))
    (zpw_or1 (zpt_cmpR op_gt (zpe_callB call_len_seq (by rfl) B.len PySem.boot_len (zpac_n (zpv 0) zpa_nil)) (zpe_glob (by rfl) mM (v:=.int 6) ⟨_,rfl⟩) (nomark _))))).pt (zpss_one (zps_ret zpe_bl)) zpss_nil)
   (zpss_cons (zps_if (zpt_not (zpt_val (zpe_all ["thing"] ["row"] [] (defScope sSigns) rfl hr (by rfl) B.all rfl CK ⟨hbm⟩ rfl rfl ⟨by decide +kernel,by decide +kernel,by decide +kernel,by decide +kernel,by decide +kernel⟩ (by decide +kernel) (by decide +kernel) (zpi_list (zpv 0))
     (fun code s H fp=>zpg_name (i:=0) (show List.Nodup [("row" : Str)] by decide +kernel) rfl (Or.inl rfl)) (fun code s H fp=>zpe_call GR hr.gen (by rfl) mR kR bR .nil passE0 (zpac_n (zpv 0) zpa_nil))))) (zpss_one (zps_ret zpe_bl)) zpss_nil)
   (zpss_one (zps_ret (zpe_cmpR op_eq (zpe_callB call_len_setT (by rfl) B.len PySem.boot_len (zpac_x (zpe_setcomp ["thing"] ["row"] [] (defScope sSigns) rfl rfl rfl ⟨by decide +kernel,by decide +kernel,by decide +kernel,by decide +kernel,by decide +kernel⟩ (zpi_list (zpv 0))
     (fun s H fp=>zpg_name (i:=0) (show List.Nodup [("row" : Str)] by decide +kernel) rfl (Or.inl rfl)) (fun s H fp=>zpts_nil) (fun s H fp=>zpe_ix (ix_tupK K rfl) (zpv 0) zpe_int (fun _ _=>rfl))) zpa_nil))
    (zpe_callB call_len_seq (by rfl) B.len PySem.boot_len (zpac_n (zpv 0) zpa_nil)) (nomark _))))),?_⟩
  refine ⟨_,rfl,_,_,_,_,rfl,hx.th.tyQ,.inl ⟨_,rfl,kit_lst hx.th⟩,_,rfl,?_⟩
  by_cases ty:tyN H x = "list"
  ·rw [decide_eq_true ty]
   obtain ⟨L,xs,rfl,hL⟩:=hx.th.isLst ty
   have q0:=q H Kp.refl TbK.refl
   have nosig:(∀cs,RowsP H xs cs→cs.Nodup→2≤cs.length→cs.length≤6→False)→sigB H (.ref L)=false:=fun h=>sigB_f fun cs ⟨S,ys,e,hS,r,nd,c2,c6⟩=>by
    cases e
    rw [hL] at hS; cases hS
    exact h cs r nd c2 c6
   refine iteF ⟨_,rfl,L,_,rfl,.inl (SqL.of hL),_,_,rfl,rfl,_,rfl,?_⟩
   refine ite2 (fun e=>?_) (fun e2=>?_)
   ·have l2:(xs.length:Int) < 2:=of_decide_eq_true e
    rw [nosig fun cs r nd c2 c6=>by have:=r.len; omega] at q0
    exact iteT q0
   have g2:¬(xs.length:Int) < 2:=fun z=>e2 (decide_eq_true z)
   refine ⟨_,rfl,L,_,rfl,.inl (SqL.of hL),_,_,rfl,rfl,_,rfl,?_⟩
   refine ite2 (fun e=>?_) (fun e6=>?_)
   ·have l6:(6:Int) < (xs.length:Int):=of_decide_eq_true e
    rw [nosig fun cs r nd c2 c6=>by have:=r.len; omega] at q0
    exact q0
   have g6:¬(6:Int) < (xs.length:Int):=fun z=>e6 (decide_eq_true z)
   obtain ⟨ps2,hT2,tr2⟩:=id ht2
   refine ⟨_,rfl,L,rfl,⟨_,SqL.of hL⟩,ps2,hT2,tr2,fun ps' tr'=>?_⟩
   refine ⟨fun i m σ2 H2=>i≤xs.length∧m=xs.length - i∧(∃v,σ2=[v])∧Kp H H2∧TbK H H2∧∀y∈xs.take i,rowB H y=true,⟨_,Nat.zero_le _,rfl,⟨_,rfl⟩,Kp.tab ht2,TbK.tab tr',fun y h=>by simp at h⟩,?_⟩
   rintro i m σ2 H2 ⟨hi,rfl,⟨v,rfl⟩,k2,b2,ar⟩
   by_cases hlt:i < xs.length
   ·have ei:=List.getElem?_eq_getElem hlt
    refine .inr ⟨⟨_,_,SqL.of (k2.lst hL),ei⟩,?_⟩
    rintro y H3 ⟨rfl,hy⟩
    have hy:=hy _ (SqL.of (k2.lst hL))
    have ty:=hx.rows L xs rfl hL y (List.mem_of_getElem? hy)
    refine ⟨_,rfl,y,rfl,ty.kp k2,b2 _ ht1,fun H4 k4 t4=>⟨_,rfl,?_⟩⟩
    rw [rowB_kp ty k2]
    by_cases ry:rowB H y=true
    ·rw [ry]
     refine iteT ⟨xs.length - (i + 1),by omega,hlt,rfl,⟨_,rfl⟩,k2.trans k4,b2.trans t4,fun z hz=>?_⟩
     rw [List.take_add_one,hy] at hz
     rcases List.mem_append.mp hz with h | h
     ·exact ar z h
     ·rw [show z=y by simpa using h]; exact ry
    ·have ry':rowB H y=false:=by simpa using ry
     rw [ry']
     refine iteF ⟨_,rfl,iteT ?_⟩
     have:=q _ (k2.trans k4) (b2.trans t4)
     rw [nosig fun cs r nd c2 c6=>by
      obtain ⟨c,_,rc⟩:=r.at hy
      exact ry (rowB_t rc)] at this
     exact this
   ·refine .inl ⟨⟨_,SqL.of (k2.lst hL),by omega⟩,_,rfl,iteF ?_⟩
    have e:i=xs.length:=by omega
    subst e
    rw [List.take_length] at ar
    obtain ⟨cs,rows⟩:=rows_of ar
    have ln:xs.length=cs.length:=rows.len
    have hL2:=k2.lst hL
    refine ⟨_,rfl,L,rfl,⟨_,SqL.of hL2⟩,fun l hl=>?_⟩
    refine ⟨fun i m σ3 H3=>i≤cs.length∧m=cs.length - i∧(∃v,σ3=[v])∧H3 l=some (SetT P w l (insAll ((sgs cs).take i)))∧Kp H H3∧TbK H H3,
     ⟨_,Nat.zero_le _,rfl,⟨_,rfl⟩,upd_same,k2.trans (Kp.new hl),b2.new hl⟩,?_⟩
    rintro j m σ3 H3 ⟨hj,rfl,⟨v,rfl⟩,hs3,k3,b3⟩
    have hL3:=k3.lst hL
    by_cases hlt:j < cs.length
    ·refine .inr ⟨⟨_,_,SqL.of hL3,List.getElem?_eq_getElem (show j < xs.length by omega)⟩,?_⟩
     rintro x H4 ⟨rfl,hy⟩
     obtain ⟨cc,hc,row⟩:=rows.at (hy _ (SqL.of hL3))
     obtain ⟨a,p,la,rfl,ha,_⟩:=row.kp k3
     dsimp only [gName]
     rw [if_pos rfl]
     have sl:(insAll ((sgs cs).take j)).length≤6:=by
      have:=(ins_len (ts:=(sgs cs).take j)).1
      rw [List.length_take] at this
      omega
     refine ⟨_,rfl,a,_,_,_,rfl,rfl,SqT.of ha,rfl,sg1 cc,_,rfl,hs3,by omega,?_⟩
     have no:∀q,SetT P w l (insAll ((sgs cs).take j))≠.tbl q:=nofun
     have es:(sgs cs)[j]? = some (sg1 cc):=by unfold sgs; rw [List.getElem?_map,hc]; rfl
     refine ⟨cs.length - (j + 1),by omega,hlt,rfl,⟨_,rfl⟩,by rw [insAll_snoc es]; exact upd_same,k2.upd_new hl k3,b3.set hs3 no⟩
    ·have e:j=cs.length:=by omega
     subst e
     have sl:(sgs cs).length=cs.length:=List.length_map ..
     rw [List.take_of_length_le (by omega)] at hs3
     refine .inl ⟨⟨_,SqL.of hL3,by omega⟩,l,_,rfl,hs3,_,rfl,L,_,rfl,.inl (SqL.of hL3),rfl,?_⟩
     have q3:=q _ k3 b3
     have il:=(ins_len (ts:=sgs cs)).2
     by_cases nd:cs.Nodup
     ·rw [il.mpr (sgs_nodup.mpr nd),sl,← ln,decide_eq_true rfl]
      rw [sigB_t ⟨L,xs,rfl,hL,rows,nd,by omega,by omega⟩] at q3
      exact q3
     ·have ne:¬V.int ((insAll (sgs cs)).length:Nat)=V.int (xs.length:Nat):=fun z=>by
       injection z with z
       exact nd (sgs_nodup.mp (il.mp (by omega)))
      rw [decide_eq_false ne]
      rw [nosig fun ds r ndd _ _=>nd (by rw [rows.inj r]; exact ndd)] at q3
      exact q3
  ·rw [decide_eq_false ty]
   have:=q H Kp.refl TbK.refl
   rw [sigB_f fun ts ⟨L,xs,e,h,_⟩=>ty (by rw [e]; exact tyN_lst h)] at this
   exact iteT (iteT this)
end
structure ThT (H:Hp) (x:V):Prop where
 th:Th H x
 parts:∀a s f p l,x = .ref a→H a=some (.tup [s,f,p,l])→ThS H s∧ThU H f∧ThU H p∧Th H l
theorem ThT.kp {H H':Hp} {x:V} (h:ThT H x) (k:Kp H H'):ThT H' x:=
 ⟨h.th.kp k,fun a s f p l e e'=>by
  obtain ⟨h1,h2,h3,h4⟩:=h.parts a s f p l e (G1.back h.th k e e')
  exact ⟨h1.kp k,h2.kp k,h3.kp k,h4.kp k⟩⟩
inductive OutT (H:Hp):V→Option V→Prop
 | kind {x:V} (h:∀a xs,x = .ref a→H a=some (.tup xs)→xs.length≠4):OutT H x (some .non)
 | signs {a:Addr} {s f p l:V} (h:H a=some (.tup [s,f,p,l])) (n:∀cs,¬SigP H s cs):OutT H (.ref a) (some (.str "signs"))
 | firsts {a:Addr} {s f p l:V} {cs:List Nat} (h:H a=some (.tup [s,f,p,l])) (g:SigP H s cs) (n:∀ts,¬UnlP H f (sgs cs) ts):OutT H (.ref a) (some (.str "firsts"))
 | pairs {a:Addr} {s f p l:V} {cs:List Nat} {fs:List Str} (h:H a=some (.tup [s,f,p,l])) (g:SigP H s cs) (gf:UnlP H f (sgs cs) fs) (n:∀ts,¬UnlP H p (prs (sgs cs)) ts):OutT H (.ref a) (some (.str "pairs"))
 | longest {a:Addr} {s f p l:V} {cs:List Nat} {fs ps:List Str} (h:H a=some (.tup [s,f,p,l])) (g:SigP H s cs) (gf:UnlP H f (sgs cs) fs) (gp:UnlP H p (prs (sgs cs)) ps) (n:inB l 1 8=false):OutT H (.ref a) (some (.str "longest"))
 | good {a:Addr} {s f p l:V} {cs:List Nat} {fs ps:List Str} (h:H a=some (.tup [s,f,p,l])) (g:SigP H s cs) (gf:UnlP H f (sgs cs) fs) (gp:UnlP H p (prs (sgs cs)) ps) (n:inB l 1 8=true):OutT H (.ref a) none
theorem PrA.ab {H:Hp} {x:V} (h:PrA H x):AbP H x:=by
 obtain ⟨a,n,d,e,ha,n0,d0,g,_⟩:=h.ex
 exact ⟨a,n,d,e,ha,n0,d0,g⟩
theorem Row.p {H:Hp} {x:V} {c:Nat} (h:Row H x c):RowP H x c:=by
 obtain ⟨a,p,l,e,ha,hp,hl⟩:=h.ex
 exact ⟨a,p,l,e,ha,h.oc,hp.ab,hl.imp id fun z=>z.ab⟩
theorem Rows.p {H:Hp} {xs:List V} {cs:List Nat} (h:Rows H xs cs):RowsP H xs cs:=⟨h.len,fun i x c e1 e2=>(h.row i x c e1 e2).p⟩
theorem Row.thr {H:Hp} {x:V} {c:Nat} (h:Row H x c):ThR H x:=by
 obtain ⟨a,p,l,e,ha,hp,hl⟩:=h.ex
 subst e
 refine ⟨.tup ha,fun b xs e e' z hz=>?_⟩
 cases e
 rw [ha] at e'; cases e'
 rcases List.mem_cons.mp hz with rfl | hz
 ·exact ⟨.str _,fun a xs e=>(by cases e),fun a n d e=>(by cases e),fun z e=>by injection e with e; rw [← e]; exact Nat.le_trans (show (1:Nat)≤8 by decide) (by decide)⟩
 ·rcases List.mem_cons.mp hz with rfl | hz
  ·exact hp.thd
  ·rw [List.mem_singleton.mp hz]
   rcases hl with rfl | hl
   ·exact ⟨.non,fun a xs e=>(by cases e),fun a n d e=>(by cases e),fun z e=>by cases e⟩
   ·exact hl.thd
theorem txs_th {H:Hp} {ts:List Str}:∀y∈txs ts,Th H y:=fun y hy=>by
 obtain ⟨z,_,rfl⟩:=List.mem_map.mp hy
 exact .str _
theorem Tg.out {H:Hp} {t:Addr} {cs:List Nat} {fs ps:List Str} {lg:Int} (h:Tg H t cs fs ps lg):ThT H (.ref t)∧OutT H (.ref t) none:=by
 obtain ⟨S,F,Pp,xs,h1,h2,h3,h4,h5⟩:=h.ex
 refine ⟨⟨.tup h1,fun a s f p l e e'=>?_⟩,.good h1 ⟨S,xs,rfl,h2,h3.p,h.nd,h.c2,h.c6⟩ ⟨F,rfl,h4,h.fnd,h.fsub⟩ ⟨Pp,rfl,h5,h.pnd,h.psub⟩ ?_⟩
 ·cases e
  rw [h1] at e'; cases e'
  refine ⟨⟨.lst h2,fun a ys e e' y hy=>?_⟩,⟨.lst h4,fun a ys e e' y hy=>?_⟩,⟨.lst h5,fun a ys e e' y hy=>?_⟩,.int lg⟩
  ·cases e
   rw [h2] at e'; cases e'
   obtain ⟨i,hi⟩:=List.getElem?_of_mem hy
   obtain ⟨c,_,r⟩:=h3.at hi
   exact r.thr
  ·cases e
   rw [h4] at e'; cases e'
   exact txs_th y hy
  ·cases e
   rw [h5] at e'; cases e'
   exact txs_th y hy
 ·show (decide (1≤lg) && decide (lg≤8))=true
  rw [decide_eq_true h.l1,decide_eq_true h.l8]; rfl
section
variable {P:Program} {w:World} {K:PySem.W.Frag} {mg:Str→Option Value} {base:Heap}
def spLookG (C T1 T2:Addr):Sp:=fun vs H Q E=>∃x r,vs=[x]∧ThT H x∧OutT H x r∧Tab T1 H∧Tab T2 H∧(r=none→∀H',Kp H H'→TbK H H'→Q .non H')∧
 (∀v,r=some v→∀dx H',Kp H H'→TbK H H'→H' dx=some (.xd [("part",v)])→E (.ref C) (some dx) H')
theorem scLkG:FnScope ["thing","signs","firsts","pairs","longest","letters"] ["thing"] (defScope sLook):=⟨rfl,rfl,rfl,by decide +kernel,rfl,by decide +kernel,by decide +kernel⟩
theorem ok_lookG {T1 T2 C fI':Addr} {f fS fO fU fI:Addr} {fd fdS fdO fdU fdI:FuncData} (F:FunG K "look_at_tongue" "look_at_tongue" sLook .none f fd) (B:Bl mg) {tk:Tok} (mM:mg "LONGEST_WORD" = some (.int 8 tk)) (mC:mg "NoTongue" = some (.ref C)) (IK:InitK P w K mg C fI' "part")
  (GS:FnOk P w K mg base (CXE P w) 6 fS fdS ["thing"] (spSignsG T1 T2)) (mS:mg "are_signs" = some (.ref fS)) (kS:PySem.W.keepIn K (.ref fS)=true) (bS:Binds K fdS ["thing"] [])
  (GO:FnOk P w K mg base (CXE P w) 1 fO fdO ["tongue"] (spSignsOfG K)) (mO:mg "signs_of" = some (.ref fO)) (kO:PySem.W.keepIn K (.ref fO)=true) (bO:Binds K fdO ["tongue"] [])
  (GU:FnOk P w K mg base (CXE P w) 1 fU fdU ["choices","thing"] spUnlikeG) (mU:mg "are_unlike_texts_of" = some (.ref fU)) (kU:PySem.W.keepIn K (.ref fU)=true) (bU:Binds K fdU ["choices","thing"] [])
  (GI:FnOk P w K mg base (CXE P w) 2 fI fdI ["thing","least","most"] spWithin) (mI:mg "is_whole_within" = some (.ref fI)) (kI:PySem.W.keepIn K (.ref fI)=true) (bI:Binds K fdI ["thing","least","most"] []):FnOk P w K mg base (CXE P w) 7 f fd ["thing"] (spLookG C T1 T2):=by
 refine F.zokE scLkG (fun vs H Q E h=>?_) (fun cdv A outer s H vs Q E hr h=>?_)
 ·obtain ⟨x,v,rfl,_⟩:=h
  rfl
 ·obtain ⟨x,r,rfl,hx,out,ht1,ht2,q,qe⟩:=h
  refine ⟨_,(zpss_cons (zps_if (SPW.pt (zpw_or (zpt_not (zpt_val (zpe_callB call_isi (by rfl) B.isi boot_isi (zpac_n (zpv 0) (zpac_n (zpe_bltn (by rfl) B.tuple boot_tuple (v:=.ty "tuple") rfl) zpa_nil))))) (zpw_or1 (zpt_cmpR op_ne (zpe_callB call_len_seq (by rfl) B.len PySem.boot_len (zpac_n (zpv 0) zpa_nil)) zpe_int (nomark _))))) (zpss_one (zps_raiseI (k:=5) hr (by rfl) mC IK (zpac_c zpe_non zpa_nil))) zpss_nil)
   (zpss_cons (zps_asg (zpv 0) (zpg_tup rfl (zpgs_cons (zpg_name (i:=1) scLkG.nd rfl (Or.inl rfl)) (zpgs_cons (zpg_name (i:=2) scLkG.nd rfl (Or.inl rfl)) (zpgs_cons (zpg_name (i:=3) scLkG.nd rfl (Or.inl rfl)) (zpgs_cons (zpg_name (i:=4) scLkG.nd rfl (Or.inl rfl)) zpgs_nil))))))
   (zpss_cons (zps_if (zpt_not (zpt_val (zpe_call GS hr (by rfl) mS kS bS .nil passE0 (zpac_n (zpv 1) zpa_nil)))) (zpss_one (zps_raiseI (k:=5) hr (by rfl) mC IK (zpac_c zpe_str zpa_nil))) zpss_nil)
   (zpss_cons (zps_set (i:=5) scLkG.nd rfl (Or.inr rfl) (zpe_call GO (hr.mono (by decide)) (by rfl) mO kO bO .nil passE0 (zpac_n (zpv 0) zpa_nil)))
   (zpss_cons (zps_if (zpt_not (zpt_val (zpe_call GU (hr.mono (by decide)) (by rfl) mU kU bU .nil passE0 (zpac_n (zpv 5) (zpac_n (zpv 2) zpa_nil))))) (zpss_one (zps_raiseI (k:=5) hr (by rfl) mC IK (zpac_c zpe_str zpa_nil))) zpss_nil)
   (zpss_cons (zps_if (zpt_not (zpt_val (zpe_call GU (hr.mono (by decide)) (by rfl) mU kU bU .nil passE0 (zpac_x (zpe_comp2 ["thing","signs","firsts","pairs","longest","letters"] ["one","other"] [5] (defScope sLook) rfl rfl rfl ⟨by decide +kernel,by decide +kernel,by decide +kernel,by decide +kernel,by decide +kernel⟩ (zpi_list (zpv 5)) (fun s H fp=>zpg_name (i:=0) (show List.Nodup [("one" : Str),"other","letters"] by decide +kernel) rfl (Or.inl rfl)) (fun s H fp=>zpts_nil) (fun s H fp=>zpi_listK K rfl (zpv 2)) (fun s H fp=>zpg_name (i:=1) (show List.Nodup [("one" : Str),"other","letters"] by decide +kernel) rfl (Or.inl rfl)) (fun s H fp=>zpts_nil) (fun s H fp=>zpe_op op_add_str (zpv 0) (zpv 1))) (zpac_n (zpv 3) zpa_nil))))) (zpss_one (zps_raiseI (k:=5) hr (by rfl) mC IK (zpac_c zpe_str zpa_nil))) zpss_nil)
   (zpss_one (zps_if (zpt_not (zpt_val (zpe_call GI (hr.mono (by decide)) (by rfl) mI kI bI .nil passE0 (zpac_n (zpv 4) (zpac_c zpe_int (zpac_n (zpe_glob (by rfl) mM (v:=.int 8) ⟨_,rfl⟩) zpa_nil)))))) (zpss_one (zps_raiseI (k:=5) hr (by rfl) mC IK (zpac_c zpe_str zpa_nil))) zpss_nil)))))))),?_⟩
  have bad:∀{v:V} {H':Hp},r=some v→Kp H H'→TbK H H'→(∃y,Shown v y∧y.length≤700)→∃u,[v]=[u]∧(∃y,Shown u y∧y.length≤700)∧∀dx,H' dx=none→E (.ref C) (some dx) (upd H' dx (.xd [("part",u)])):=fun {v H'} e k t sh=>
   ⟨v,rfl,sh,fun dx hd=>qe v e dx _ (k.trans (Kp.new hd)) (t.new hd) upd_same⟩
  have non:∃y,Shown V.non y∧y.length≤700:=⟨_,.non,by decide⟩
  have st:∀{z:Str},z.length≤700→∃y,Shown (V.str z) y∧y.length≤700:=fun {z} h=>⟨_,.str (Nat.le_trans h (by decide)),h⟩
  refine ⟨_,rfl,_,_,_,_,rfl,hx.th.tyQ,.inl ⟨_,rfl,kit_tup hx.th⟩,_,rfl,?_⟩
  by_cases ty:tyN H x = "tuple"
  rotate_left
  ·have e:r=some .non:=by
    cases out with
    | kind h=>rfl
    | signs h n=>exact absurd (tyN_tup h) ty
    | firsts h g n=>exact absurd (tyN_tup h) ty
    | pairs h g gf n=>exact absurd (tyN_tup h) ty
    | longest h g gf gp n=>exact absurd (tyN_tup h) ty
    | good h g gf gp n=>exact absurd (tyN_tup h) ty
   rw [decide_eq_false ty]
   exact iteT (iteT (bad e Kp.refl TbK.refl non))
  rw [decide_eq_true ty]
  obtain ⟨t,xs,rfl,ha⟩:=hx.th.isTup ty
  refine iteF ⟨_,rfl,t,_,rfl,.inr (SqT.of ha),rfl,_,rfl,?_⟩
  by_cases l4:xs.length=4
  rotate_left
  ·have e:r=some .non:=by
    cases out with
    | kind h=>rfl
    | signs h n=>rw [ha] at h; cases h; exact absurd rfl l4
    | firsts h g n=>rw [ha] at h; cases h; exact absurd rfl l4
    | pairs h g gf n=>rw [ha] at h; cases h; exact absurd rfl l4
    | longest h g gf gp n=>rw [ha] at h; cases h; exact absurd rfl l4
    | good h g gf gp n=>rw [ha] at h; cases h; exact absurd rfl l4
   rw [show (!decide (V.int (xs.length:Int)=V.int 4))=true by
    have:¬V.int ((xs.length:Nat):Int)=V.int 4:=fun z=>by injection z with z; exact l4 (by omega)
    rw [decide_eq_false this]; rfl]
   exact iteT (bad e Kp.refl TbK.refl non)
  rw [show (!decide (V.int (xs.length:Int)=V.int 4))=false by rw [l4]; rfl]
  refine iteF ?_
  obtain ⟨sg,ff,pp,lg,rfl⟩:=four_of l4
  obtain ⟨ts,tf,tp,tl⟩:=hx.parts t _ _ _ _ rfl ha
  refine ⟨_,rfl,t,_,rfl,SqT.of ha,rfl,_,_,rfl,_,_,rfl,_,_,rfl,_,_,rfl,rfl,?_⟩
  refine ⟨_,rfl,sg,rfl,ts,ht1,ht2,fun H1 k1 t1=>⟨_,rfl,?_⟩⟩
  by_cases hs:∃cs,SigP H sg cs
  rotate_left
  ·have e:r=some (.str "signs"):=by
    cases out with
    | kind h=>exact absurd rfl (h t _ rfl ha)
    | signs h n=>rfl
    | firsts h g n=>rw [ha] at h; cases h; exact absurd ⟨_,g⟩ hs
    | pairs h g gf n=>rw [ha] at h; cases h; exact absurd ⟨_,g⟩ hs
    | longest h g gf gp n=>rw [ha] at h; cases h; exact absurd ⟨_,g⟩ hs
    | good h g gf gp n=>rw [ha] at h; cases h; exact absurd ⟨_,g⟩ hs
   rw [sigB_f fun cs z=>hs ⟨cs,z⟩]
   exact iteT (bad e k1 t1 (st (by decide)))
  obtain ⟨cs,hs⟩:=hs
  rw [sigB_t hs]
  refine iteF ?_
  have uniq:∀{ds:List Nat},SigP H sg ds→ds=cs:=fun {ds} z=>by
   obtain ⟨S,ys,e,hS,r1,_⟩:=z
   obtain ⟨S',ys',e',hS',r2,_⟩:=hs
   rw [e] at e'; cases e'
   rw [hS] at hS'; cases hS'
   exact r1.inj r2
  obtain ⟨S,xs,rfl,g2,g3,gnd,gc2,gc6⟩:=id hs
  refine ⟨_,rfl,t,S,_,_,_,xs,cs,rfl,SqT.of (k1.tup ha),k1.lst g2,g3.kp k1,gc6,fun l H2 hl s2 hl2=>?_⟩
  have k2:Kp H H2:=k1.trans (Kp.same s2)
  have sl:(sgs cs).length=cs.length:=List.length_map ..
  refine ⟨_,rfl,_,rfl,l,ff,sgs cs,rfl,hl2,by omega,tf.kp k2,fun H3 s3=>⟨_,rfl,?_⟩⟩
  have k3:=k2.trans (Kp.same s3)
  have t3:=(t1.same s2).same s3
  have unl:∀{x:V} {ks:List Str} {H':Hp},ThU H x→Kp H H'→unlB H' x ks=unlB H x ks:=fun {x ks H'} tx k=>by
   by_cases h:∃us,UnlP H x ks us
   ·obtain ⟨us,h⟩:=h
    rw [unlB_t h,unlB_t (h.kp k)]
   ·rw [unlB_f fun us z=>h ⟨us,z⟩,unlB_f fun us z=>h ⟨us,by
     obtain ⟨L,e,hL,z2⟩:=z
     exact ⟨L,e,G1.back tx.th k e hL,z2⟩⟩]
  rw [unl tf k2]
  by_cases hf:∃fs,UnlP H ff (sgs cs) fs
  rotate_left
  ·have e:r=some (.str "firsts"):=by
    cases out with
    | kind h=>exact absurd rfl (h t _ rfl ha)
    | signs h n=>rw [ha] at h; cases h; exact absurd hs (n _)
    | firsts h g n=>rfl
    | pairs h g gf n=>rw [ha] at h; cases h; cases (uniq g); exact absurd ⟨_,gf⟩ hf
    | longest h g gf gp n=>rw [ha] at h; cases h; cases (uniq g); exact absurd ⟨_,gf⟩ hf
    | good h g gf gp n=>rw [ha] at h; cases h; cases (uniq g); exact absurd ⟨_,gf⟩ hf
   rw [unlB_f fun us z=>hf ⟨us,z⟩]
   exact iteT (bad e k3 t3 (st (by decide)))
  obtain ⟨fs,hf⟩:=hf
  rw [unlB_t hf]
  refine iteF ?_
  have hl3:=s3 _ _ hl2
  refine ⟨_,rfl,l,rfl,⟨_,SqL.of hl3⟩,fun p hp=>?_⟩
  have kl:(sgs cs).length≤6:=by omega
  refine ⟨fun i m σ2 H4=>i≤(sgs cs).length∧m=(sgs cs).length - i∧(∃v1 v2,σ2=[v1,v2,some (.ref l)])∧H4 p=some (.lst (txs (((sgs cs).take i).flatMap fun a=>(sgs cs).map fun b=>a ++ b)))∧Same H3 H4,
   ⟨_,Nat.zero_le _,rfl,⟨_,_,rfl⟩,upd_same,same_upd hp⟩,?_⟩
  rintro i m σ2 H4 ⟨hi,rfl,⟨v1,v2,rfl⟩,hp4,s4⟩
  have hl4:=s4 _ _ hl3
  have len:(txs (sgs cs)).length=(sgs cs).length:=List.length_map ..
  by_cases hlt:i < (sgs cs).length
  ·refine .inr ⟨⟨_,_,SqL.of hl4,List.getElem?_eq_getElem (show i < (txs (sgs cs)).length by rw [len]; exact hlt)⟩,?_⟩
   rintro x H5 ⟨rfl,hx⟩
   obtain ⟨a,ha,rfl⟩:∃a,(sgs cs)[i]? = some a∧x = .str a:=by
    have hx:=hx _ (SqL.of hl4)
    unfold txs at hx
    rw [List.getElem?_map] at hx
    obtain ⟨t,h1,h2⟩:=Option.map_eq_some_iff.mp hx
    exact ⟨t,h1,h2.symm⟩
   dsimp only [gName]
   rw [if_pos rfl]
   refine ⟨_,rfl,l,rfl,⟨_,SqL.of hl4⟩,?_⟩
   refine ⟨fun j m σ3 H6=>j≤(sgs cs).length∧m=(sgs cs).length - j∧(∃v2,σ3=[some (.str a),v2,some (.ref l)])∧H6 p=some (.lst (txs (((sgs cs).take i).flatMap (fun a=>(sgs cs).map fun b=>a ++ b) ++ ((sgs cs).take j).map fun b=>a ++ b)))∧Same H3 H6,
    ⟨_,Nat.zero_le _,rfl,⟨_,rfl⟩,by simpa using hp4,s4⟩,?_⟩
   rintro j m σ3 H6 ⟨hj,rfl,⟨v2,rfl⟩,hp6,s6⟩
   have hl6:=s6 _ _ hl3
   by_cases hjt:j < (sgs cs).length
   ·refine .inr ⟨⟨_,_,SqL.of hl6,List.getElem?_eq_getElem (show j < (txs (sgs cs)).length by rw [len]; exact hjt)⟩,?_⟩
    rintro y H7 ⟨rfl,hy⟩
    obtain ⟨b,hb,rfl⟩:∃b,(sgs cs)[j]? = some b∧y = .str b:=by
     have hy:=hy _ (SqL.of hl6)
     unfold txs at hy
     rw [List.getElem?_map] at hy
     obtain ⟨t,h1,h2⟩:=Option.map_eq_some_iff.mp hy
     exact ⟨t,h1,h2.symm⟩
    have one:∀z∈sgs cs,z.length=1:=fun z hz=>by
     obtain ⟨c,_,rfl⟩:=List.mem_map.mp hz
     rfl
    dsimp only [gName]
    rw [if_pos rfl]
    refine ⟨_,rfl,_,rfl,a,b,rfl,rfl,?_,_,hp6,?_,(sgs cs).length - (j + 1),by omega,hjt,rfl,⟨_,rfl⟩,?_,?_⟩
    ·rw [one a (List.mem_of_getElem? ha),one b (List.mem_of_getElem? hb)]; decide
    ·unfold txs
     rw [List.length_map,List.length_append,flat_len _ _ (sgs cs).length (fun a=>by rw [List.length_map]),List.length_map,List.length_take,List.length_take]
     have:min i (sgs cs).length * (sgs cs).length≤6 * 6:=Nat.mul_le_mul (by omega) kl
     exact Nat.lt_of_le_of_lt (show _≤42 by omega) (by decide)
    ·have:((sgs cs).take i).flatMap (fun a=>(sgs cs).map fun b=>a ++ b) ++ ((sgs cs).take (j + 1)).map (fun b=>a ++ b)=(((sgs cs).take i).flatMap (fun a=>(sgs cs).map fun b=>a ++ b) ++ ((sgs cs).take j).map fun b=>a ++ b) ++ [a ++ b]:=by
      rw [List.take_add_one,hb,List.map_append,List.append_assoc]; rfl
     rw [this]
     unfold txs
     rw [List.map_append (l₂:=[a ++ b])]
     exact upd_same
    ·intro c o hc
     rw [upd_ne (ne_of_none hc hp)]; exact s6 c o hc
   ·have e:j=(sgs cs).length:=by omega
    subst e
    refine .inl ⟨⟨_,SqL.of hl6,by rw [len]; exact Nat.le_refl _⟩,(sgs cs).length - (i + 1),by omega,hlt,rfl,⟨_,_,rfl⟩,?_,s6⟩
    rw [prs_snoc ha]
    rw [List.take_length] at hp6
    exact hp6
  ·have e:i=(sgs cs).length:=by omega
   subst e
   refine .inl ⟨⟨_,SqL.of hl4,by rw [len]; exact Nat.le_refl _⟩,?_⟩
   rw [List.take_length] at hp4
   have k4:=k3.trans (Kp.same s4)
   have t4:=t3.same s4
   have pl:(prs (sgs cs)).length≤100:=by
    rw [prs_len]
    exact Nat.le_trans (Nat.mul_le_mul kl kl) (by decide)
   refine ⟨_,rfl,p,pp,prs (sgs cs),rfl,hp4,pl,tp.kp k4,fun H5 s5=>⟨_,rfl,?_⟩⟩
   have k5:=k4.trans (Kp.same s5)
   have t5:=t4.same s5
   rw [unl tp k4]
   by_cases hp:∃ps,UnlP H pp (prs (sgs cs)) ps
   rotate_left
   ·have e:r=some (.str "pairs"):=by
     cases out with
     | kind h=>exact absurd rfl (h t _ rfl ha)
     | signs h n=>rw [ha] at h; cases h; exact absurd hs (n _)
     | firsts h g n=>rw [ha] at h; cases h; cases (uniq g); exact absurd hf (n _)
     | pairs h g gf n=>rfl
     | longest h g gf gp n=>rw [ha] at h; cases h; cases (uniq g); exact absurd ⟨_,gp⟩ hp
     | good h g gf gp n=>rw [ha] at h; cases h; cases (uniq g); exact absurd ⟨_,gp⟩ hp
    rw [unlB_f fun us z=>hp ⟨us,z⟩]
    exact iteT (bad e k5 t5 (st (by decide)))
   obtain ⟨ps,hp⟩:=hp
   rw [unlB_t hp]
   refine iteF ⟨_,rfl,lg,1,8,rfl,tl.kp k5,_,rfl,?_⟩
   by_cases hb:inB lg 1 8=true
   ·have e:r=none:=by
     cases out with
     | kind h=>exact absurd rfl (h t _ rfl ha)
     | signs h n=>rw [ha] at h; cases h; exact absurd hs (n _)
     | firsts h g n=>rw [ha] at h; cases h; cases (uniq g); exact absurd hf (n _)
     | pairs h g gf n=>rw [ha] at h; cases h; cases (uniq g); exact absurd hp (n _)
     | longest h g gf gp n=>rw [ha] at h; cases h; rw [hb] at n; cases n
     | good h g gf gp n=>rfl
    rw [hb]
    exact iteF (q e H5 k5 t5)
   ·have hb':inB lg 1 8=false:=by simpa using hb
    have e:r=some (.str "longest"):=by
     cases out with
     | kind h=>exact absurd rfl (h t _ rfl ha)
     | signs h n=>rw [ha] at h; cases h; exact absurd hs (n _)
     | firsts h g n=>rw [ha] at h; cases h; cases (uniq g); exact absurd hf (n _)
     | pairs h g gf n=>rw [ha] at h; cases h; cases (uniq g); exact absurd hp (n _)
     | longest h g gf gp n=>rfl
     | good h g gf gp n=>rw [ha] at h; cases h; rw [hb'] at n; cases n
    rw [hb']
    exact iteT (bad e k5 t5 (st (by decide)))
end
end G1
namespace L2
open PySem PySem.Spec PyProof.Rows
structure Other (K:PySem.W.Frag) (CN C:Addr):Prop where
 no:PySem.W.mroIn K CN (.ref C)=some false
 hd:PySem.W.hasDictIn K C=true
 ty:PySem.W.typeIn K (.ref C)=some (.type "type")
theorem Other.one {K:PySem.W.Frag} {CN C:Addr} (self:PySem.W.mroIn K CN (.ref CN)=some true) (o:Other K CN C):PySem.W.kitOne K (.ref CN) (.ref C)=some false:=by
 have ne:¬((Value.ref CN == Value.ref C)=true):=fun z=>by
  have e:CN=C:=Value.ref.inj (beq_iff_eq.mp z)
  have h:=o.no
  rw [← e,self] at h
  cases h
 obtain ⟨cd,q,_⟩:=PySem.W.any_some o.hd
 unfold PySem.W.kitOne
 rw [if_neg ne]
 show (if ((PySem.W.clsIn K C).isSome && PySem.W.typeIn K (.ref C) == some (.type "type"))=true then PySem.W.subIn K (.ref CN) (.ref C) else none)=some false
 rw [if_pos (by rw [q,o.ty]; simp)]
 exact o.no
theorem Other.all {K:PySem.W.Frag} {CN:Addr} (self:PySem.W.mroIn K CN (.ref CN)=some true):∀{cs:List Addr},(∀C∈cs,Other K CN C)→PySem.W.kitAny K (.ref CN) (cs.map Value.ref)=some false
 | [],_=>rfl
 | c :: cs,h=>by
  show (match PySem.W.kitOne K (.ref CN) (.ref c) with | some true=>some true | some false=>PySem.W.kitAny K (.ref CN) (cs.map Value.ref) | none=>none)=some false
  rw [(h c (by simp)).one self]
  exact Other.all self fun C hC=>h C (by simp [hC])
theorem kit_self {K:PySem.W.Frag} {C:Addr}:PySem.W.kitOne K (.ref C) (.ref C)=some true:=by
 unfold PySem.W.kitOne
 rw [if_pos (by simp)]
theorem kit_type {K:PySem.W.Frag} {C:Addr} (h:PySem.W.mroIn K C (.type "ValueError")=some true):PySem.W.kitOne K (.ref C) (.type "ValueError")=some true:=by
 unfold PySem.W.kitOne
 rw [if_neg (by simp)]
 show (if PySem.W.kitMeta "ValueError" = true then PySem.W.subIn K (.ref C) (.type "ValueError") else none)=some true
 rw [if_pos (by decide +kernel)]
 exact h
theorem boot_ve:bootBuiltins "ValueError" = some (.type "ValueError"):=by decide +kernel
theorem zpe_xdK {X:Cx} {o:Expr} {f:Str} {pos:Pos} {ta:TE} (K:PySem.W.Frag) (hK:X.K=K) (he:SPE X o ta) (hb:attributeBase o f X.env (eval o X.env)=eval o X.env:=by rfl):SPE X (.Attribute o f pos) (tXd K ta f):=hK ▸ zpe_xd he hb
end L2
namespace G1
open PySem L2 GM
structure Cl (K:PySem.W.Frag) (mg:Str→Option Value) (c:List Addr):Prop where
 len:c.length=15
 dear:mg "DearError" = some (.ref (c.getD 0 0))
 c1:mg "NoTongue" = some (.ref (c.getD 1 0))
 c2:mg "BadSign" = some (.ref (c.getD 2 0))
 c3:mg "NoBook" = some (.ref (c.getD 3 0))
 c4:mg "NoCount" = some (.ref (c.getD 4 0))
 c5:mg "NoNumber" = some (.ref (c.getD 5 0))
 c6:mg "NoRow" = some (.ref (c.getD 6 0))
 c7:mg "NoText" = some (.ref (c.getD 7 0))
 c8:mg "NoThing" = some (.ref (c.getD 8 0))
 c9:mg "NoTree" = some (.ref (c.getD 9 0))
 c10:mg "NoTurn" = some (.ref (c.getD 10 0))
 c11:mg "NoUndo" = some (.ref (c.getD 11 0))
 c12:mg "NoWants" = some (.ref (c.getD 12 0))
 c13:mg "TooMany" = some (.ref (c.getD 13 0))
 c14:mg "Unknown" = some (.ref (c.getD 14 0))
 cls:ClsX K (c.getD 1 0)
 self:PySem.W.mroIn K (c.getD 1 0) (.ref (c.getD 1 0))=some true
 ve:PySem.W.mroIn K (c.getD 1 0) (.type "ValueError")=some true
 up:PySem.W.mroIn K (c.getD 1 0) (.ref (c.getD 0 0))=some true
 catch_:CatchK K (c.getD 0 0)
 oth:∀i,2≤i→i < 15→Other K (c.getD 1 0) (c.getD i 0)
 num:PySem.W.findIn K (.ref (c.getD 1 0)) "part" = some none
theorem outT_kp {H H':Hp} {x:V} {r:Option V} (k:Kp H H') (tx:ThT H x) (o:OutT H x r):OutT H' x r:=by
 have tx0:=tx.th
 cases o with
 | kind h=>exact .kind fun a xs e e'=>h a xs e (G1.back tx0 k e e')
 | signs h n=>
  refine .signs (k.tup h) fun cs hs=>n cs ?_
  obtain ⟨S,xs,e,hS,r,z⟩:=hs
  obtain ⟨ts,_⟩:=tx.parts _ _ _ _ _ rfl h
  have hS0:=G1.back ts.th k e hS
  refine ⟨S,xs,e,hS0,⟨r.len,fun i x c e1 e2=>(r.row i x c e1 e2).back (ts.rows S xs e hS0 x (List.mem_of_getElem? e1)) k⟩,z⟩
 | firsts h g n=>
  refine .firsts (k.tup h) (g.kp k) fun ts ht=>n ts ?_
  obtain ⟨L,e,hL,z⟩:=ht
  exact ⟨L,e,G1.back (tx.parts _ _ _ _ _ rfl h).2.1.th k e hL,z⟩
 | pairs h g gf n=>
  refine .pairs (k.tup h) (g.kp k) (gf.kp k) fun ts ht=>n ts ?_
  obtain ⟨L,e,hL,z⟩:=ht
  exact ⟨L,e,G1.back (tx.parts _ _ _ _ _ rfl h).2.2.1.th k e hL,z⟩
 | longest h g gf gp n=>exact .longest (k.tup h) (g.kp k) (gf.kp k) (gp.kp k) n
 | good h g gf gp n=>exact .good (k.tup h) (g.kp k) (gf.kp k) (gp.kp k) n
section
variable {P:Program} {w:World} {K:PySem.W.Frag} {mg:Str→Option Value} {base:Heap} {c:List Addr}
def spBad (n:Nat) (C T1 T2:Addr):Sp:=fun vs H _ E=>∃x v ys,vs=x :: ys∧ys.length=n∧ThT H x∧OutT H x (some v)∧Tab T1 H∧Tab T2 H∧∀dx H',Kp H H'→TbK H H'→H' dx=some (.xd [("part",v)])→E (.ref C) (some dx) H'
theorem one_ofL {α:Type} {ys:List α} (h:ys.length=1):∃y,ys=[y]:=by
 match ys,h with
 | [y],_=>exact ⟨y,rfl⟩
theorem two_ofL {α:Type} {ys:List α} (h:ys.length=2):∃y z,ys=[y,z]:=by
 match ys,h with
 | [y,z],_=>exact ⟨y,z,rfl⟩
theorem scMs:FnScope ["tongue","thing"] ["tongue","thing"] (defScope sMayStand):=⟨rfl,rfl,rfl,by decide +kernel,rfl,by decide +kernel,by decide +kernel⟩
theorem ok_dMs {C T1 T2:Addr} {f fL:Addr} {fd fdL:FuncData} (F:FunG K "may_stand" "may_stand" sMayStand .none f fd)
  (GL:FnOk P w K mg base (CXE P w) 7 fL fdL ["thing"] (spLookG C T1 T2)) (mL:mg "look_at_tongue" = some (.ref fL)) (kL:PySem.W.keepIn K (.ref fL)=true) (bL:Binds K fdL ["thing"] []):FnOk P w K mg base (CXE P w) 8 f fd ["tongue","thing"] (spBad 1 C T1 T2):=by
 refine F.zokE scMs (fun vs H Q E h=>?_) (fun cdv A outer s H vs Q E hr h=>?_)
 ·obtain ⟨x,v,ys,rfl,hl,_⟩:=h
  simp [hl]
 ·obtain ⟨x,v,ys,rfl,hl,hx,out,h1,h2,q⟩:=h
  obtain ⟨y,rfl⟩:=one_ofL hl
  refine ⟨_,(zpss_cons (zps_expr (zpe_call GL hr (by rfl) mL kL bL .nil (passes_fn fun _ _ _ z=>z) (zpac_n (zpv 0) zpa_nil))) zpss_never),?_⟩
  exact ⟨_,rfl,x,some v,rfl,hx,out,h1,h2,nofun,fun v' e dx H' k t hd=>(by cases e; exact q dx H' k t hd)⟩
theorem scIw:FnScope ["tongue","thing"] ["tongue","thing"] (defScope sIsWord):=⟨rfl,rfl,rfl,by decide +kernel,rfl,by decide +kernel,by decide +kernel⟩
theorem ok_dIw {C T1 T2:Addr} {f fL:Addr} {fd fdL:FuncData} (F:FunG K "is_word" "is_word" sIsWord .none f fd)
  (GL:FnOk P w K mg base (CXE P w) 7 fL fdL ["thing"] (spLookG C T1 T2)) (mL:mg "look_at_tongue" = some (.ref fL)) (kL:PySem.W.keepIn K (.ref fL)=true) (bL:Binds K fdL ["thing"] []):FnOk P w K mg base (CXE P w) 8 f fd ["tongue","thing"] (spBad 1 C T1 T2):=by
 refine F.zokE scIw (fun vs H Q E h=>?_) (fun cdv A outer s H vs Q E hr h=>?_)
 ·obtain ⟨x,v,ys,rfl,hl,_⟩:=h
  simp [hl]
 ·obtain ⟨x,v,ys,rfl,hl,hx,out,h1,h2,q⟩:=h
  obtain ⟨y,rfl⟩:=one_ofL hl
  refine ⟨_,(zpss_cons (zps_expr (zpe_call GL hr (by rfl) mL kL bL .nil (passes_fn fun _ _ _ z=>z) (zpac_n (zpv 0) zpa_nil))) zpss_never),?_⟩
  exact ⟨_,rfl,x,some v,rfl,hx,out,h1,h2,nofun,fun v' e dx H' k t hd=>(by cases e; exact q dx H' k t hd)⟩
theorem scMc:FnScope ["tongue","ahead","sign"] ["tongue","ahead","sign"] (defScope sMayCome):=⟨rfl,rfl,rfl,by decide +kernel,rfl,by decide +kernel,by decide +kernel⟩
theorem ok_dMc {C T1 T2:Addr} {f fL:Addr} {fd fdL:FuncData} (F:FunG K "may_come" "may_come" sMayCome .none f fd)
  (GL:FnOk P w K mg base (CXE P w) 7 fL fdL ["thing"] (spLookG C T1 T2)) (mL:mg "look_at_tongue" = some (.ref fL)) (kL:PySem.W.keepIn K (.ref fL)=true) (bL:Binds K fdL ["thing"] []):FnOk P w K mg base (CXE P w) 8 f fd ["tongue","ahead","sign"] (spBad 2 C T1 T2):=by
 refine F.zokE scMc (fun vs H Q E h=>?_) (fun cdv A outer s H vs Q E hr h=>?_)
 ·obtain ⟨x,v,ys,rfl,hl,_⟩:=h
  simp [hl]
 ·obtain ⟨x,v,ys,rfl,hl,hx,out,h1,h2,q⟩:=h
  obtain ⟨y,z,rfl⟩:=two_ofL hl
  refine ⟨_,(zpss_cons (zps_expr (zpe_call GL hr (by rfl) mL kL bL .nil (passes_fn fun _ _ _ z=>z) (zpac_n (zpv 0) zpa_nil))) zpss_never),?_⟩
  exact ⟨_,rfl,x,some v,rfl,hx,out,h1,h2,nofun,fun v' e dx H' k t hd=>(by cases e; exact q dx H' k t hd)⟩
theorem scWo:FnScope ["tongue","text"] ["tongue","text"] (defScope sWay):=⟨rfl,rfl,rfl,by decide +kernel,rfl,by decide +kernel,by decide +kernel⟩
theorem ok_dWo {C T1 T2:Addr} {f fL:Addr} {fd fdL:FuncData} (F:FunG K "way_of" "way_of" sWay .none f fd)
  (GL:FnOk P w K mg base (CXE P w) 7 fL fdL ["thing"] (spLookG C T1 T2)) (mL:mg "look_at_tongue" = some (.ref fL)) (kL:PySem.W.keepIn K (.ref fL)=true) (bL:Binds K fdL ["thing"] []):FnOk P w K mg base (CXE P w) 8 f fd ["tongue","text"] (spBad 1 C T1 T2):=by
 refine F.zokE scWo (fun vs H Q E h=>?_) (fun cdv A outer s H vs Q E hr h=>?_)
 ·obtain ⟨x,v,ys,rfl,hl,_⟩:=h
  simp [hl]
 ·obtain ⟨x,v,ys,rfl,hl,hx,out,h1,h2,q⟩:=h
  obtain ⟨y,rfl⟩:=one_ofL hl
  refine ⟨_,(zpss_cons (zps_expr (zpe_call GL hr (by rfl) mL kL bL .nil (passes_fn fun _ _ _ z=>z) (zpac_n (zpv 0) zpa_nil))) zpss_never),?_⟩
  exact ⟨_,rfl,x,some v,rfl,hx,out,h1,h2,nofun,fun v' e dx H' k t hd=>(by cases e; exact q dx H' k t hd)⟩
theorem scPo:FnScope ["tongue","word"] ["tongue","word"] (defScope sPriceOf):=⟨rfl,rfl,rfl,by decide +kernel,rfl,by decide +kernel,by decide +kernel⟩
theorem ok_dPo {C T1 T2:Addr} {f fL:Addr} {fd fdL:FuncData} (F:FunG K "price_of" "price_of" sPriceOf .none f fd)
  (GL:FnOk P w K mg base (CXE P w) 7 fL fdL ["thing"] (spLookG C T1 T2)) (mL:mg "look_at_tongue" = some (.ref fL)) (kL:PySem.W.keepIn K (.ref fL)=true) (bL:Binds K fdL ["thing"] []):FnOk P w K mg base (CXE P w) 8 f fd ["tongue","word"] (spBad 1 C T1 T2):=by
 refine F.zokE scPo (fun vs H Q E h=>?_) (fun cdv A outer s H vs Q E hr h=>?_)
 ·obtain ⟨x,v,ys,rfl,hl,_⟩:=h
  simp [hl]
 ·obtain ⟨x,v,ys,rfl,hl,hx,out,h1,h2,q⟩:=h
  obtain ⟨y,rfl⟩:=one_ofL hl
  refine ⟨_,(zpss_cons (zps_expr (zpe_call GL hr (by rfl) mL kL bL .nil (passes_fn fun _ _ _ z=>z) (zpac_n (zpv 0) zpa_nil))) zpss_never),?_⟩
  exact ⟨_,rfl,x,some v,rfl,hx,out,h1,h2,nofun,fun v' e dx H' k t hd=>(by cases e; exact q dx H' k t hd)⟩
theorem scWs:FnScope ["tongue","comers","ends","words","length"] ["tongue"] (defScope sWords):=⟨rfl,rfl,rfl,by decide +kernel,rfl,by decide +kernel,by decide +kernel⟩
theorem ok_dWs {C T1 T2:Addr} {f fL:Addr} {fd fdL:FuncData} (F:FunG K "words_of" "words_of" sWords .none f fd)
  (GL:FnOk P w K mg base (CXE P w) 7 fL fdL ["thing"] (spLookG C T1 T2)) (mL:mg "look_at_tongue" = some (.ref fL)) (kL:PySem.W.keepIn K (.ref fL)=true) (bL:Binds K fdL ["thing"] []):FnOk P w K mg base (CXE P w) 8 f fd ["tongue"] (spBad 0 C T1 T2):=by
 refine F.zokE scWs (fun vs H Q E h=>?_) (fun cdv A outer s H vs Q E hr h=>?_)
 ·obtain ⟨x,v,ys,rfl,hl,_⟩:=h
  simp [hl]
 ·obtain ⟨x,v,ys,rfl,hl,hx,out,h1,h2,q⟩:=h
  obtain rfl:=List.eq_nil_of_length_eq_zero hl
  refine ⟨_,(zpss_cons (zps_expr (zpe_call GL hr (by rfl) mL kL bL .nil (passes_fn fun _ _ _ z=>z) (zpac_n (zpv 0) zpa_nil))) zpss_never),?_⟩
  exact ⟨_,rfl,x,some v,rfl,hx,out,h1,h2,nofun,fun v' e dx H' k t hd=>(by cases e; exact q dx H' k t hd)⟩
theorem scWc:FnScope ["tongue","enders"] ["tongue"] (defScope sWCounts):=⟨rfl,rfl,rfl,by decide +kernel,rfl,by decide +kernel,by decide +kernel⟩
theorem ok_dWc {C T1 T2:Addr} {f fL:Addr} {fd fdL:FuncData} (F:FunG K "word_counts" "word_counts" sWCounts .none f fd)
  (GL:FnOk P w K mg base (CXE P w) 7 fL fdL ["thing"] (spLookG C T1 T2)) (mL:mg "look_at_tongue" = some (.ref fL)) (kL:PySem.W.keepIn K (.ref fL)=true) (bL:Binds K fdL ["thing"] []):FnOk P w K mg base (CXE P w) 8 f fd ["tongue"] (spBad 0 C T1 T2):=by
 refine F.zokE scWc (fun vs H Q E h=>?_) (fun cdv A outer s H vs Q E hr h=>?_)
 ·obtain ⟨x,v,ys,rfl,hl,_⟩:=h
  simp [hl]
 ·obtain ⟨x,v,ys,rfl,hl,hx,out,h1,h2,q⟩:=h
  obtain rfl:=List.eq_nil_of_length_eq_zero hl
  refine ⟨_,(zpss_cons (zps_expr (zpe_call GL hr (by rfl) mL kL bL .nil (passes_fn fun _ _ _ z=>z) (zpac_n (zpv 0) zpa_nil))) zpss_never),?_⟩
  exact ⟨_,rfl,x,some v,rfl,hx,out,h1,h2,nofun,fun v' e dx H' k t hd=>(by cases e; exact q dx H' k t hd)⟩
theorem scTc:FnScope ["tongue"] ["tongue"] (defScope sTCounts):=⟨rfl,rfl,rfl,by decide +kernel,rfl,by decide +kernel,by decide +kernel⟩
theorem ok_dTc {C T1 T2:Addr} {f fL:Addr} {fd fdL:FuncData} (F:FunG K "text_counts" "text_counts" sTCounts .none f fd)
  (GL:FnOk P w K mg base (CXE P w) 7 fL fdL ["thing"] (spLookG C T1 T2)) (mL:mg "look_at_tongue" = some (.ref fL)) (kL:PySem.W.keepIn K (.ref fL)=true) (bL:Binds K fdL ["thing"] []):FnOk P w K mg base (CXE P w) 8 f fd ["tongue"] (spBad 0 C T1 T2):=by
 refine F.zokE scTc (fun vs H Q E h=>?_) (fun cdv A outer s H vs Q E hr h=>?_)
 ·obtain ⟨x,v,ys,rfl,hl,_⟩:=h
  simp [hl]
 ·obtain ⟨x,v,ys,rfl,hl,hx,out,h1,h2,q⟩:=h
  obtain rfl:=List.eq_nil_of_length_eq_zero hl
  refine ⟨_,(zpss_cons (zps_expr (zpe_call GL hr (by rfl) mL kL bL .nil (passes_fn fun _ _ _ z=>z) (zpac_n (zpv 0) zpa_nil))) zpss_never),?_⟩
  exact ⟨_,rfl,x,some v,rfl,hx,out,h1,h2,nofun,fun v' e dx H' k t hd=>(by cases e; exact q dx H' k t hd)⟩
def spCall (C T1 T2:Addr):Sp:=fun vs H _ E=>∃(x v:V) (d:Int),vs=[x,.int d]∧0≤d∧d≤8∧ThT H x∧OutT H x (some v)∧Tab T1 H∧Tab T2 H∧∀dx H',Kp H H'→TbK H H'→H' dx=some (.xd [("part",v)])→E (.ref C) (some dx) H'
theorem scCl:FnScope ["_law_thing","_law_door"] ["_law_thing","_law_door"] (defScope sLCall):=⟨rfl,rfl,rfl,by decide +kernel,rfl,by decide +kernel,by decide +kernel⟩
theorem ok_call {C T1 T2:Addr} {f fA fB fD fF fG fI fJ fM fL:Addr} {fd fdA fdB fdD fdF fdG fdI fdJ fdM fdL:FuncData} (F:FunG K "_law_call" "_law_call" sLCall .none f fd)
  (GA:FnOk P w K mg base (CXE P w) 8 fA fdA ["tongue","thing"] (spBad 1 C T1 T2)) (mA:mg "may_stand" = some (.ref fA)) (kA:PySem.W.keepIn K (.ref fA)=true) (bA:Binds K fdA ["tongue","thing"] [])
  (GB:FnOk P w K mg base (CXE P w) 8 fB fdB ["tongue","thing"] (spBad 1 C T1 T2)) (mB:mg "is_word" = some (.ref fB)) (kB:PySem.W.keepIn K (.ref fB)=true) (bB:Binds K fdB ["tongue","thing"] [])
  (GD:FnOk P w K mg base (CXE P w) 8 fD fdD ["tongue","ahead","sign"] (spBad 2 C T1 T2)) (mD:mg "may_come" = some (.ref fD)) (kD:PySem.W.keepIn K (.ref fD)=true) (bD:Binds K fdD ["tongue","ahead","sign"] [])
  (GF:FnOk P w K mg base (CXE P w) 8 fF fdF ["tongue","text"] (spBad 1 C T1 T2)) (mF:mg "way_of" = some (.ref fF)) (kF:PySem.W.keepIn K (.ref fF)=true) (bF:Binds K fdF ["tongue","text"] [])
  (GG:FnOk P w K mg base (CXE P w) 8 fG fdG ["tongue","word"] (spBad 1 C T1 T2)) (mG:mg "price_of" = some (.ref fG)) (kG:PySem.W.keepIn K (.ref fG)=true) (bG:Binds K fdG ["tongue","word"] [])
  (GI:FnOk P w K mg base (CXE P w) 8 fI fdI ["tongue"] (spBad 0 C T1 T2)) (mI:mg "words_of" = some (.ref fI)) (kI:PySem.W.keepIn K (.ref fI)=true) (bI:Binds K fdI ["tongue"] [])
  (GJ:FnOk P w K mg base (CXE P w) 8 fJ fdJ ["tongue"] (spBad 0 C T1 T2)) (mJ:mg "word_counts" = some (.ref fJ)) (kJ:PySem.W.keepIn K (.ref fJ)=true) (bJ:Binds K fdJ ["tongue"] [])
  (GM:FnOk P w K mg base (CXE P w) 8 fM fdM ["tongue"] (spBad 0 C T1 T2)) (mM:mg "text_counts" = some (.ref fM)) (kM:PySem.W.keepIn K (.ref fM)=true) (bM:Binds K fdM ["tongue"] [])
  (GL:FnOk P w K mg base (CXE P w) 7 fL fdL ["thing"] (spLookG C T1 T2)) (mL:mg "look_at_tongue" = some (.ref fL)) (kL:PySem.W.keepIn K (.ref fL)=true) (bL:Binds K fdL ["thing"] []):FnOk P w K mg base (CXE P w) 9 f fd ["_law_thing","_law_door"] (spCall C T1 T2):=by
 refine F.zokE scCl (fun vs H Q E h=>?_) (fun cdv A outer s H vs Q E hr h=>?_)
 ·obtain ⟨x,v,d,rfl,_⟩:=h
  rfl
 ·obtain ⟨x,v,d,rfl,d0,d8,hx,out,h1,h2,q⟩:=h
  refine ⟨_,(zpss_cons (zps_if (zpt_cmpR op_eq (zpv 1) zpe_int (nomark _)) (zpss_one (zps_ret (zpe_call GA hr (by rfl) mA kA bA .nil (passes_fn fun _ _ _ z=>z) (zpac_n (zpv 0) (zpac_c zpe_str zpa_nil))))) zpss_nil)
   (zpss_cons (zps_if (zpt_cmpR op_eq (zpv 1) zpe_int (nomark _)) (zpss_one (zps_ret (zpe_call GB hr (by rfl) mB kB bB .nil (passes_fn fun _ _ _ z=>z) (zpac_n (zpv 0) (zpac_c zpe_str zpa_nil))))) zpss_nil)
   (zpss_cons (zps_if (zpt_cmpR op_eq (zpv 1) zpe_int (nomark _)) (zpss_one (zps_ret (zpe_call GD hr (by rfl) mD kD bD .nil (passes_fn fun _ _ _ z=>z) (zpac_n (zpv 0) (zpac_c zpe_str (zpac_c zpe_str zpa_nil)))))) zpss_nil)
   (zpss_cons (zps_if (zpt_cmpR op_eq (zpv 1) zpe_int (nomark _)) (zpss_one (zps_ret (zpe_call GF hr (by rfl) mF kF bF .nil (passes_fn fun _ _ _ z=>z) (zpac_n (zpv 0) (zpac_c zpe_str zpa_nil))))) zpss_nil)
   (zpss_cons (zps_if (zpt_cmpR op_eq (zpv 1) zpe_int (nomark _)) (zpss_one (zps_ret (zpe_call GG hr (by rfl) mG kG bG .nil (passes_fn fun _ _ _ z=>z) (zpac_n (zpv 0) (zpac_c zpe_str zpa_nil))))) zpss_nil)
   (zpss_cons (zps_if (zpt_cmpR op_eq (zpv 1) zpe_int (nomark _)) (zpss_one (zps_ret (zpe_call GI hr (by rfl) mI kI bI .nil (passes_fn fun _ _ _ z=>z) (zpac_n (zpv 0) zpa_nil)))) zpss_nil)
   (zpss_cons (zps_if (zpt_cmpR op_eq (zpv 1) zpe_int (nomark _)) (zpss_one (zps_ret (zpe_call GJ hr (by rfl) mJ kJ bJ .nil (passes_fn fun _ _ _ z=>z) (zpac_n (zpv 0) zpa_nil)))) zpss_nil)
   (zpss_cons (zps_if (zpt_cmpR op_eq (zpv 1) zpe_int (nomark _)) (zpss_one (zps_ret (zpe_call GM hr (by rfl) mM kM bM .nil (passes_fn fun _ _ _ z=>z) (zpac_n (zpv 0) zpa_nil)))) zpss_nil)
   (zpss_one (zps_ret (zpe_call GL (hr.mono (by decide)) (by rfl) mL kL bL .nil (passes_fn fun _ _ _ z=>z) (zpac_n (zpv 0) zpa_nil)))))))))))),?_⟩
  refine ⟨_,rfl,rfl,_,rfl,ite2 (fun _=>?_) (fun _=>?_)⟩
  ·refine ⟨_,rfl,x,v,_,rfl,rfl,hx,out,h1,h2,q⟩
  refine ⟨_,rfl,rfl,_,rfl,ite2 (fun _=>?_) (fun _=>?_)⟩
  ·refine ⟨_,rfl,x,v,_,rfl,rfl,hx,out,h1,h2,q⟩
  refine ⟨_,rfl,rfl,_,rfl,ite2 (fun _=>?_) (fun _=>?_)⟩
  ·refine ⟨_,rfl,x,v,_,rfl,rfl,hx,out,h1,h2,q⟩
  refine ⟨_,rfl,rfl,_,rfl,ite2 (fun _=>?_) (fun _=>?_)⟩
  ·refine ⟨_,rfl,x,v,_,rfl,rfl,hx,out,h1,h2,q⟩
  refine ⟨_,rfl,rfl,_,rfl,ite2 (fun _=>?_) (fun _=>?_)⟩
  ·refine ⟨_,rfl,x,v,_,rfl,rfl,hx,out,h1,h2,q⟩
  refine ⟨_,rfl,rfl,_,rfl,ite2 (fun _=>?_) (fun _=>?_)⟩
  ·refine ⟨_,rfl,x,v,_,rfl,rfl,hx,out,h1,h2,q⟩
  refine ⟨_,rfl,rfl,_,rfl,ite2 (fun _=>?_) (fun _=>?_)⟩
  ·refine ⟨_,rfl,x,v,_,rfl,rfl,hx,out,h1,h2,q⟩
  refine ⟨_,rfl,rfl,_,rfl,ite2 (fun _=>?_) (fun _=>?_)⟩
  ·refine ⟨_,rfl,x,v,_,rfl,rfl,hx,out,h1,h2,q⟩
  exact ⟨_,rfl,x,some v,rfl,hx,out,h1,h2,nofun,fun v' e dx H' k t hd=>(by cases e; exact q dx H' k t hd)⟩
def spIsRef (CN:Addr):Sp:=fun vs H Q _=>∃e dx v,vs=[.ref e]∧H e=some (ExcD CN e (some dx))∧H dx=some (.xd [("part",v)])∧∀H',Same H H'→Q (.bl true) H'
theorem scIr:FnScope ["_law_kept"] ["_law_kept"] (defScope sIsRef):=⟨rfl,rfl,rfl,by decide +kernel,rfl,by decide +kernel,by decide +kernel⟩
theorem ok_isref {f:Addr} {fd:FuncData} (F:FunG K "_law_is_refusal" "_law_is_refusal" sIsRef .none f fd) (B:Bl mg) (hve:mg "ValueError" = none) (C:Cl K mg c) :
  FnOk P w K mg base (CXE P w) 1 f fd ["_law_kept"] (spIsRef (c.getD 1 0)):=by
 refine F.zokN scIr (fun vs H Q E h=>?_) (fun cdv A outer s H vs Q E hr h=>?_)
 ·obtain ⟨e,dx,v,rfl,_⟩:=h
  rfl
 ·obtain ⟨e,dx,v,rfl,he2,hd2,q⟩:=h
  refine ⟨_,(zpss_cons (zps_if (SPW.pt (zpw_or (zpt_not (zpt_val (zpe_callB call_isi (by rfl) B.isi boot_isi (zpac_n (zpv 0) (zpac_n (zpe_glob (by rfl) C.c1 (v:=.ref _) rfl) zpa_nil))))) (zpw_or1 (zpt_not (zpt_val (zpe_callB call_isi (by rfl) B.isi boot_isi (zpac_n (zpv 0) (zpac_n (zpe_bltn (by rfl) hve boot_ve (v:=.ty "ValueError") rfl) zpa_nil)))))))) (zpss_one (zps_ret zpe_bl)) zpss_nil)
   (zpss_cons (zps_if (zpt_val (zpe_callB call_isi (by rfl) B.isi boot_isi (zpac_n (zpv 0) (zpac_t (zpe_tup (zpac_n (zpe_glob (by rfl) C.c2 (v:=.ref _) rfl) (zpac_n (zpe_glob (by rfl) C.c3 (v:=.ref _) rfl) (zpac_n (zpe_glob (by rfl) C.c4 (v:=.ref _) rfl) (zpac_n (zpe_glob (by rfl) C.c5 (v:=.ref _) rfl) (zpac_n (zpe_glob (by rfl) C.c6 (v:=.ref _) rfl) (zpac_n (zpe_glob (by rfl) C.c7 (v:=.ref _) rfl) (zpac_n (zpe_glob (by rfl) C.c8 (v:=.ref _) rfl) zpa_nil)))))))) zpa_nil)))) (zpss_one (zps_ret zpe_bl)) zpss_nil)
   (zpss_one (zps_ret (zpe_not (zpe_callB call_isi (by rfl) B.isi boot_isi (zpac_n (zpv 0) (zpac_t (zpe_tup (zpac_n (zpe_glob (by rfl) C.c9 (v:=.ref _) rfl) (zpac_n (zpe_glob (by rfl) C.c10 (v:=.ref _) rfl) (zpac_n (zpe_glob (by rfl) C.c11 (v:=.ref _) rfl) (zpac_n (zpe_glob (by rfl) C.c12 (v:=.ref _) rfl) (zpac_n (zpe_glob (by rfl) C.c13 (v:=.ref _) rfl) (zpac_n (zpe_glob (by rfl) C.c14 (v:=.ref _) rfl) zpa_nil))))))) zpa_nil)))))))),?_⟩
  have rng:∀i∈[2,3,4,5,6,7,8,9,10,11,12,13,14],2≤i∧i < 15:=by decide
  have ty:∀{H':Hp},Same H H'→TyX K H' (.ref e) (.ref (c.getD 1 0)):=fun s=>.excD (s _ _ he2) (s _ _ hd2) C.cls
  have s0:Same H H:=fun _ _ h=>h
  refine ⟨_,rfl,_,_,_,true,rfl,ty s0,.inl ⟨_,rfl,kit_self⟩,_,rfl,?_⟩
  refine iteF ⟨_,rfl,_,_,_,true,rfl,ty s0,.inl ⟨_,rfl,kit_type C.ve⟩,_,rfl,?_⟩
  refine iteF ?_
  refine ⟨_,rfl,by show 7≤sizeLine; decide,fun t ht=>?_⟩
  have s1:=same_upd (o:=.tup ([2,3,4,5,6,7,8].map fun i=>V.ref (c.getD i 0))) ht
  refine ⟨_,_,_,false,rfl,ty s1,.inr ⟨t,_,[2,3,4,5,6,7,8].map (fun i=>Value.ref (c.getD i 0)),rfl,SqT.of upd_same,rfl,?_⟩,_,rfl,?_⟩
  ·exact Other.all (cs:=[2,3,4,5,6,7,8].map (fun i=>c.getD i 0)) C.self fun a ha=>by
    obtain ⟨i,hi,rfl⟩:=List.mem_map.mp ha
    have:=rng i (List.mem_append_left [9,10,11,12,13,14] hi)
    exact C.oth i this.1 this.2
  refine iteF ?_
  refine ⟨_,rfl,by show 6≤sizeLine; decide,fun t2 ht2=>?_⟩
  have s3:=s1.trans (same_upd (o:=.tup [.ref (c.getD 9 0),.ref (c.getD 10 0),.ref (c.getD 11 0),.ref (c.getD 12 0),.ref (c.getD 13 0),.ref (c.getD 14 0)]) ht2)
  refine ⟨_,_,_,false,rfl,ty s3,.inr ⟨t2,_,[9,10,11,12,13,14].map (fun i=>Value.ref (c.getD i 0)),rfl,SqT.of upd_same,rfl,?_⟩,?_⟩
  ·exact Other.all (cs:=[9,10,11,12,13,14].map (fun i=>c.getD i 0)) C.self fun a ha=>by
    obtain ⟨i,hi,rfl⟩:=List.mem_map.mp ha
    have:=rng i (List.mem_append_right [2,3,4,5,6,7,8] hi)
    exact C.oth i this.1 this.2
  exact ⟨_,rfl,q _ s3⟩
def spPart (T1 T2:Addr):Sp:=fun vs H Q _=>∃(x v:V) (d:Int),vs=[x,.int d]∧0≤d∧d≤8∧ThT H x∧OutT H x (some v)∧Tab T1 H∧Tab T2 H∧∀t H',Kp H H'→TbK H H'→H' t=some (.tup [v])→Q (.ref t) H'
theorem scPa:FnScope ["_law_thing","_law_door","_law_kept","e"] ["_law_thing","_law_door"] (defScope sPart):=⟨rfl,rfl,rfl,by decide +kernel,rfl,by decide +kernel,by decide +kernel⟩
theorem ok_part {T1 T2:Addr} {f fN fO:Addr} {fd fdN fdO:FuncData} (F:FunG K "_law_part" "_law_part" sPart .none f fd) (C:Cl K mg c)
  (GN:FnOk P w K mg base (CXE P w) 9 fN fdN ["_law_thing","_law_door"] (spCall (c.getD 1 0) T1 T2)) (mN:mg "_law_call" = some (.ref fN)) (kN:PySem.W.keepIn K (.ref fN)=true) (bN:Binds K fdN ["_law_thing","_law_door"] [])
  (GO:FnOk P w K mg base (CXE P w) 1 fO fdO ["_law_kept"] (spIsRef (c.getD 1 0))) (mO:mg "_law_is_refusal" = some (.ref fO)) (kO:PySem.W.keepIn K (.ref fO)=true) (bO:Binds K fdO ["_law_kept"] []):FnOk P w K mg base (CXE P w) 10 f fd ["_law_thing","_law_door"] (spPart T1 T2):=by
 refine F.zokN scPa (fun vs H Q E h=>?_) (fun cdv A outer s H vs Q E hr h=>?_)
 ·obtain ⟨x,v,d,rfl,_⟩:=h
  rfl
 ·obtain ⟨x,v,d,rfl,d0,d8,hx,out,h1,h2,q⟩:=h
  refine ⟨_,(zpss_cons (zps_set (i:=2) scPa.nd rfl (Or.inl rfl) zpe_non)
   (zpss_cons (zps_try_as (j:=3) (zpsx_expr (zpex_call GN hr (by rfl) mN kN bN .nil (zpac_n (zpv 0) (zpac_n (zpv 1) zpa_nil)))) scPa.nd rfl rfl rfl rfl (by rfl) C.dear C.catch_ (fun e=>(zpss_one (zps_set (i:=2) scPa.nd rfl (Or.inl rfl) (zpv 3)))))
   (zpss_cons (zps_if (zpt_not (zpt_val (zpe_call GO (hr.mono (by decide)) (by rfl) mO kO bO .nil passE0 (zpac_n (zpv 2) zpa_nil)))) (zpss_one (zps_ret (zpe_tup (zpac_c zpe_str zpa_nil)))) zpss_nil)
   (zpss_one (zps_ret (zpe_tup (zpac_x (zpe_xdK K rfl (zpv 2)) zpa_nil))))))),?_⟩
  refine ⟨_,rfl,_,rfl,x,v,d,rfl,d0,d8,hx,out,h1,h2,fun dx H1 k1 t1 hd=>?_⟩
  refine ⟨c.getD 1 0,rfl,C.up,fun e he=>?_⟩
  have s2:Same H1 (upd H1 e (ExcD (c.getD 1 0) e (some dx))):=same_upd he
  have hd2:=s2 _ _ hd
  have he2:upd H1 e (ExcD (c.getD 1 0) e (some dx)) e=some (ExcD (c.getD 1 0) e (some dx)):=upd_same
  have k2:=k1.trans (Kp.same s2)
  have t2:=t1.same s2
  generalize upd H1 e (ExcD (c.getD 1 0) e (some dx))=H2 at hd2 he2 k2 t2
  refine ⟨_,rfl,?_⟩
  refine ⟨_,rfl,e,dx,v,rfl,he2,hd2,fun H3 s3=>⟨_,rfl,?_⟩⟩
  refine iteF ?_
  refine ⟨_,rfl,e,_,dx,_,v,rfl,s3 _ _ he2,s3 _ _ hd2,C.cls,C.num,rfl,?_⟩
  refine ⟨by show 1≤sizeLine; decide,?_⟩
  (intro t gt; generalize hEq:upd _ t _=H4; refine newC hEq gt ?_; clear hEq; intro S4 et ot)
  exact q t H4 (k2.trans (Kp.same (s3.trans S4))) (t2.same (s3.trans S4)) et
end
theorem flat_th {H:Hp} {v:V} (f:flatV v=true):Th H v:=by
 cases v with
 | non=>exact .non
 | bl b=>exact .bl b
 | int i=>exact .int i
 | str z=>exact .str z
 | _=>cases f
theorem th_one {H:Hp} {x:V} (f:flatV x=true) (nf:∀z,x≠.str z):ThD H x:=
 ⟨flat_th f,fun a xs e=>(by rw [e] at f; cases f),fun a n d e=>(by rw [e] at f; cases f),fun z e=>absurd e (nf z)⟩
theorem th_frac {H:Hp} {a:Addr} {n d:Int} (h:H a=some (.tup [.int n,.int d])) (d1:d.natAbs < big):ThD H (.ref a):=by
 refine ⟨.tup h,fun b xs e hb y hy=>?_,fun b n' d' e hb=>?_,nofun⟩
 ·cases e
  rw [h] at hb; cases hb
  rcases List.mem_cons.mp hy with rfl | hy
  ·exact .int _
  ·rw [List.mem_singleton.mp hy]; exact .int _
 ·cases e
  rw [h] at hb; cases hb
  exact d1
theorem tht {H:Hp} {a:Addr} {s f p l:V} (h:H a=some (.tup [s,f,p,l])) (h1:ThS H s) (h2:ThU H f) (h3:ThU H p) (h4:Th H l):ThT H (.ref a):=⟨.tup h,fun b s' f' p' l' e e'=>by
 cases e
 rw [h] at e'; cases e'
 exact ⟨h1,h2,h3,h4⟩⟩
theorem thu_txs {H:Hp} {a:Addr} {ts:List Str} (h:H a=some (.lst (txs ts))):ThU H (.ref a):=⟨.lst h,fun b ys e e' y hy=>by
 cases e
 rw [h] at e'; cases e'
 exact txs_th y hy⟩
theorem thr_of {H:Hp} {a:Addr} {x y z:V} (h:H a=some (.tup [x,y,z])) (h1:ThD H x) (h2:ThD H y) (h3:ThD H z):ThR H (.ref a):=⟨.tup h,fun b ys e e' u hu=>by
 cases e
 rw [h] at e'; cases e'
 rcases List.mem_cons.mp hu with rfl | hu
 ·exact h1
 ·rcases List.mem_cons.mp hu with rfl | hu
  ·exact h2
  ·rw [List.mem_singleton.mp hu]; exact h3⟩
theorem sgl {H:Hp} {c:Nat}:ThD H (.str (sg1 c)):=⟨.str _,fun a xs e=>(by cases e),fun a n d e=>(by cases e),fun z e=>by injection e with e; rw [← e]; exact Nat.le_trans (show (1:Nat)≤8 by decide) (by decide)⟩
def rem (H:Hp) (S:Addr):Hp:=fun b=>if b=S then none else H b
theorem rem_ne {H:Hp} {S a:Addr} (h:a≠S):rem H S a=H a:=if_neg h
theorem rem_same {H:Hp} {S:Addr}:Same (rem H S) H:=fun b u e=>by
 unfold rem at e
 split at e
 ·cases e
 ·exact e
theorem rem_mono {H H':Hp} {S:Addr} (s:Same H H'):Same (rem H S) (rem H' S):=fun b u e=>by
 by_cases h:b=S
 ·rw [h] at e; unfold rem at e; rw [if_pos rfl] at e; cases e
 ·rw [rem_ne h] at e ⊢; exact s _ _ e
theorem txs_flatM {ts:List Str}:∀y∈txs ts,flatV y=true:=fun y hy=>by
 obtain ⟨z,_,rfl⟩:=List.mem_map.mp hy
 rfl
theorem txs_len (ts:List Str):(txs ts).length=ts.length:=List.length_map ..
theorem sgs_len (cs:List Nat):(sgs cs).length=cs.length:=List.length_map ..
theorem sgs_append (a b:List Nat):sgs (a ++ b)=sgs a ++ sgs b:=by unfold sgs; rw [List.map_append]
theorem txs_app (a b:List Str):txs (a ++ b)=txs a ++ txs b:=by unfold txs; rw [List.map_append]
def NL (H:Hp) (x:V):Prop:=ThD H x∧∀c,occ c=true→x≠.str (sg1 c)
def NP (H:Hp) (x:V):Prop:=ThD H x∧¬AbP H x
def NLa (H:Hp) (x:V):Prop:=ThD H x∧x≠.non∧¬AbP H x
theorem NL.same {H H':Hp} {x:V} (h:NL H x) (s:Same H H'):NL H' x:=⟨h.1.kp (Kp.same s),h.2⟩
theorem NP.same {H H':Hp} {x:V} (h:NP H x) (s:Same H H'):NP H' x:=⟨h.1.kp (Kp.same s),fun z=>h.2 (z.back h.1.th (Kp.same s))⟩
theorem NLa.same {H H':Hp} {x:V} (h:NLa H x) (s:Same H H'):NLa H' x:=⟨h.1.kp (Kp.same s),h.2.1,fun z=>h.2.2 (z.back h.1.th (Kp.same s))⟩
def BR (H:Hp) (cs:List Nat) (j:Nat) (y:V):Prop:=ThR H y∧∀c,RowP H y c→cs[j]? = some c
theorem BR.same {H H':Hp} {cs:List Nat} {j:Nat} {x:V} (h:BR H cs j x) (s:Same H H'):BR H' cs j x:=⟨h.1.kp (Kp.same s),fun c z=>h.2 c (z.back h.1 (Kp.same s))⟩
def BadS (H:Hp) (x:V):Prop:=ThS H x∧∀cs,¬SigP H x cs
theorem BadS.same {H H':Hp} {x:V} (h:BadS H x) (s:Same H H'):BadS H' x:=⟨h.1.kp (Kp.same s),fun cs ⟨S,xs,e,hS,r,z⟩=>by
 have hS0:=G1.back h.1.th (Kp.same s) e hS
 exact h.2 cs ⟨S,xs,e,hS0,⟨r.len,fun i x c e1 e2=>(r.row i x c e1 e2).back (h.1.rows S xs e hS0 x (List.mem_of_getElem? e1)) (Kp.same s)⟩,z⟩⟩
def BadU (H:Hp) (ks:List Str) (x:V):Prop:=ThU H x∧∀ts,¬UnlP H x ks ts
theorem BadU.same {H H':Hp} {ks:List Str} {x:V} (h:BadU H ks x) (s:Same H H'):BadU H' ks x:=⟨h.1.kp (Kp.same s),fun ts ⟨L,e,hL,z⟩=>h.2 ts ⟨L,e,G1.back h.1.th (Kp.same s) e hL,z⟩⟩
theorem nolist_flat {H:Hp} {x:V} (f:flatV x=true):∀a xs,x = .ref a→H a≠some (.lst xs):=fun a xs e=>by rw [e] at f; cases f
theorem nolist_tup {H:Hp} {b:Addr} {ys:List V} (h:H b=some (.tup ys)):∀a xs,V.ref b = .ref a→H a≠some (.lst xs):=fun a xs e=>by cases e; rw [h]; nofun
theorem nolist_dct {H:Hp} {b:Addr} {ys:List (Key × V)} (h:H b=some (.dK ys)):∀a xs,V.ref b = .ref a→H a≠some (.lst xs):=fun a xs e=>by cases e; rw [h]; nofun
theorem badS_no {H:Hp} {x:V} (t:Th H x) (n:∀a xs,x = .ref a→H a≠some (.lst xs)):BadS H x:=⟨⟨t,fun a xs e h=>absurd h (n a xs e)⟩,fun cs ⟨S,xs,e,hS,_⟩=>n S xs e hS⟩
theorem badS_len {H:Hp} {a:Addr} {xs:List V} (h:H a=some (.lst xs)) (r:∀y∈xs,ThR H y) (l:xs.length < 2∨6 < xs.length):BadS H (.ref a):=⟨⟨.lst h,fun b ys e e' y hy=>by
 cases e
 rw [h] at e'; cases e'
 exact r y hy⟩,fun cs ⟨S,ys,e,hS,rr,_,c2,c6⟩=>by
 cases e
 rw [h] at hS; cases hS
 have:=rr.len
 omega⟩
theorem rowP_inj {H:Hp} {y:V} {c d:Nat} (h:RowP H y c) (g:RowP H y d):c=d:=by
 obtain ⟨a,p,l,e,ha,_⟩:=h
 obtain ⟨a',p',l',e',ha',_⟩:=g
 rw [e] at e'; cases e'
 rw [ha] at ha'
 injection ha' with z
 injection z with z
 injection z with z1 z2
 injection z1 with z1
 exact sg1_inj z1
theorem badS_row {H:Hp} {a:Addr} {xs:List V} {cs:List Nat} {i j:Nat} {y:V} (r:RowsP H xs cs) (tr:∀y∈xs,ThR H y) (hi:i < cs.length) (hj:j < cs.length) (ne:j≠i) (b:BR H cs j y) (h:H a=some (.lst (xs.take i ++ [y] ++ xs.drop (i + 1)))):BadS H (.ref a):=by
 have xl:=r.len
 refine ⟨⟨.lst h,fun b' ys e e' z hz=>?_⟩,fun ds ⟨S,ys,e,hS,rr,nd,c2,c6⟩=>?_⟩
 ·cases e
  rw [h] at e'; cases e'
  rcases List.mem_append.mp hz with hz | hz
  ·rcases List.mem_append.mp hz with hz | hz
   ·exact tr z (List.mem_of_mem_take hz)
   ·rw [List.mem_singleton.mp hz]; exact b.1
  ·exact tr z (List.mem_of_mem_drop hz)
 ·cases e
  rw [h] at hS; cases hS
  have tl:(xs.take i).length=i:=by rw [List.length_take]; omega
  have ei:(xs.take i ++ [y] ++ xs.drop (i + 1))[i]? = some y:=by
   rw [List.append_assoc,List.getElem?_append_right (by omega),tl,Nat.sub_self]; rfl
  have ej:(xs.take i ++ [y] ++ xs.drop (i + 1))[j]? = xs[j]?:=by
   rw [List.append_assoc]
   by_cases l:j < i
   ·rw [List.getElem?_append_left (by omega),List.getElem?_take,if_pos l]
   ·rw [List.getElem?_append_right (by omega),tl]
    obtain ⟨k,rfl⟩:∃k,j=i + 1 + k:=⟨j - i - 1,by omega⟩
    rw [show i + 1 + k - i=k + 1 by omega]
    show (xs.drop (i + 1))[k]? = _
    rw [List.getElem?_drop]
  obtain ⟨c,hc,rc⟩:=rr.at ei
  have ex:xs[j]? = some (xs[j]'(by omega)):=List.getElem?_eq_getElem _
  rw [ex] at ej
  obtain ⟨d,hd,rd⟩:=rr.at ej
  obtain ⟨d',hd',rd'⟩:=r.at ex
  have e1:=rowP_inj rd rd'
  have e2:=b.2 c rc
  rw [hd'] at e2
  injection e2 with e2
  have:ds[j]? = ds[i]?:=by rw [hd,hc,e1,e2]
  exact ne ((List.getElem?_inj (List.getElem?_eq_some_iff.mp hd).1 nd).mp this)
theorem badU_no {H:Hp} {ks:List Str} {x:V} (t:Th H x) (n:∀a xs,x = .ref a→H a≠some (.lst xs)):BadU H ks x:=⟨⟨t,fun a xs e h=>absurd h (n a xs e)⟩,fun ts ⟨S,e,hS,_⟩=>n S _ e hS⟩
theorem badU_el {H:Hp} {ks:List Str} {a:Addr} {xs:List V} {y:V} (h:H a=some (.lst xs)) (t:∀y∈xs,Th H y) (m:y∈xs) (n:∀k∈ks,y≠.str k):BadU H ks (.ref a):=⟨⟨.lst h,fun b ys e e' z hz=>by
 cases e
 rw [h] at e'; cases e'
 exact t z hz⟩,fun ts ⟨S,e,hS,_,sub⟩=>by
 cases e
 rw [h] at hS; cases hS
 obtain ⟨k,hk,rfl⟩:=List.mem_map.mp m
 exact n k (sub k hk) rfl⟩
theorem badU_dup {H:Hp} {ks ts:List Str} {a:Addr} (h:H a=some (.lst (txs ts))) (n:¬ts.Nodup):BadU H ks (.ref a):=⟨thu_txs h,fun us ⟨S,e,hS,nd,_⟩=>by
 cases e
 rw [h] at hS
 injection hS with z
 injection z with z
 rw [txs_inj z] at n
 exact n nd⟩
theorem nl_flat {H:Hp} {x:V} (f:flatV x=true) (sl:∀z,x = .str z→z.length≤700) (n:∀c,occ c=true→x≠.str (sg1 c)):NL H x:=
 ⟨⟨flat_th f,fun a xs e=>(by rw [e] at f; cases f),fun a n d e=>(by rw [e] at f; cases f),fun z e=>Nat.le_trans (sl z e) (by decide)⟩,n⟩
theorem br_let {H:Hp} {cs:List Nat} {j:Nat} {a:Addr} {x p l:V} (h:H a=some (.tup [x,p,l])) (nx:NL H x) (tp:ThD H p) (tl:ThD H l):BR H cs j (.ref a):=⟨thr_of h nx.1 tp tl,fun c ⟨a',p',l',e,ha,oc,_⟩=>by
 cases e
 rw [h] at ha
 injection ha with z
 injection z with z
 injection z with z1 z2
 exact absurd z1 (nx.2 c oc)⟩
theorem br_pr {H:Hp} {cs:List Nat} {j:Nat} {a:Addr} {x p l:V} (h:H a=some (.tup [x,p,l])) (tx:ThD H x) (np:NP H p) (tl:ThD H l):BR H cs j (.ref a):=⟨thr_of h tx np.1 tl,fun c ⟨a',p',l',e,ha,oc,hp,_⟩=>by
 cases e
 rw [h] at ha
 cases ha
 exact absurd hp np.2⟩
theorem br_la {H:Hp} {cs:List Nat} {j:Nat} {a:Addr} {x p l:V} (h:H a=some (.tup [x,p,l])) (tx:ThD H x) (tp:ThD H p) (nl:NLa H l):BR H cs j (.ref a):=⟨thr_of h tx tp nl.1,fun c ⟨a',p',l',e,ha,oc,hp,hl⟩=>by
 cases e
 rw [h] at ha
 cases ha
 exact hl.elim (fun z=>absurd z nl.2.1) (fun z=>absurd z nl.2.2)⟩
theorem br_no {H:Hp} {cs:List Nat} {j:Nat} {y:V} (t:ThR H y) (n:∀a x p l,y = .ref a→H a≠some (.tup [x,p,l])):BR H cs j y:=⟨t,fun c ⟨a',p',l',e,ha,_⟩=>absurd ha (n _ _ _ _ e)⟩
theorem thr_flat {H:Hp} {x:V} (f:flatV x=true):ThR H x:=⟨flat_th f,fun a xs e=>(by rw [e] at f; cases f)⟩
theorem thr_lst {H:Hp} {a:Addr} {xs:List V} (h:H a=some (.lst xs)):ThR H (.ref a):=⟨.lst h,fun b ys e e'=>(by cases e; rw [h] at e'; cases e')⟩
theorem thr_tup {H:Hp} {a:Addr} {xs:List V} (h:H a=some (.tup xs)) (t:∀z∈xs,ThD H z):ThR H (.ref a):=⟨.tup h,fun b ys e e' z hz=>(by cases e; rw [h] at e'; cases e'; exact t z hz)⟩
theorem thd_lst {H:Hp} {a:Addr} {xs:List V} (h:H a=some (.lst xs)):ThD H (.ref a):=⟨.lst h,fun b ys e e'=>(by cases e; rw [h] at e'; cases e'),fun b n d e e'=>(by cases e; rw [h] at e'; cases e'),nofun⟩
theorem thd_tup {H:Hp} {a:Addr} {xs:List V} (h:H a=some (.tup xs)) (t:∀z∈xs,Th H z) (few:∀n d,xs≠[.int n,.int d]):ThD H (.ref a):=⟨.tup h,fun b ys e e' z hz=>(by cases e; rw [h] at e'; cases e'; exact t z hz),fun b n d e e'=>(by cases e; rw [h] at e'; cases e'; exact absurd rfl (few n d)),nofun⟩
theorem rem2_upd {H:Hp} {p M:Addr} {o:HO}:Same (rem (rem H p) M) (rem (rem (upd H M o) p) M):=fun b u e=>by
 by_cases h:b=M
 ·rw [h] at e; unfold rem at e; rw [if_pos rfl] at e; cases e
 ·by_cases h2:b=p
  ·rw [rem_ne h,h2] at e; unfold rem at e; rw [if_pos rfl] at e; cases e
  ·rw [rem_ne h,rem_ne h2] at e ⊢; rw [upd_ne h]; exact e
theorem rem2_mono {H H':Hp} {p M:Addr} (s:Same H H'):Same (rem (rem H p) M) (rem (rem H' p) M):=rem_mono (rem_mono s)
theorem rem2_new {H H':Hp} {p M:Addr} (g:H M=none) (s:Same H H'):Same (rem H p) (rem (rem H' p) M):=fun b u e=>by
 have e2:=rem_same _ _ e
 rw [rem_ne (ne_of_none e2 g)]
 exact rem_mono s _ _ e
theorem none_back {H H':Hp} {a:Addr} (s:Same H H') (g:H' a=none):H a=none:=by
 cases e:H a with
 | none=>rfl
 | some o=>rw [s _ _ e] at g; cases g
theorem cut_to (xs:List V) (k:Nat):cutV xs none (some (k:Int))=xs.take k:=by
 unfold cutV
 rw [HT.sIx_nat,HT.sIx_none,List.drop_zero,Nat.sub_zero]
 by_cases h:k≤xs.length
 ·rw [Nat.min_eq_left h]
 ·rw [Nat.min_eq_right (by omega),List.take_of_length_le (by omega),List.take_of_length_le (by omega)]
theorem cut_from (xs:List V) (k:Nat):cutV xs (some (k:Int)) none=xs.drop k:=by
 unfold cutV
 rw [HT.sIx_nat,HT.sIx_none,List.take_of_length_le (by rw [List.length_drop]; omega)]
 by_cases h:k≤xs.length
 ·rw [Nat.min_eq_left h]
 ·rw [Nat.min_eq_right (by omega),List.drop_of_length_le (by omega),List.drop_of_length_le (by omega)]
theorem all_snoc {α:Type} {R:α→Prop} {xs:List α} {y:α} (h:∀z∈xs,R z) (g:R y):∀z∈xs ++ [y],R z:=fun z hz=>by
 rcases List.mem_append.mp hz with m | m
 ·exact h z m
 ·rw [List.mem_singleton.mp m]; exact g
theorem all_app {α:Type} {R:α→Prop} {xs ys:List α} (h:∀z∈xs,R z) (g:∀z∈ys,R z):∀z∈xs ++ ys,R z:=fun z hz=>(List.mem_append.mp hz).elim (h z) (g z)
end G1
namespace L2
open PySem PySem.Spec PyProof.Rows
theorem ix_listK {X:Cx} (K:PySem.W.Frag) (h:X.K=K):IxR X (rIxL K):=h ▸ ix_list
theorem op_notIn_seqK {X:Cx} (K:PySem.W.Frag) (h:X.K=K):OpR X (compareOp .NotIn) (rIn K true):=h ▸ op_notIn_seq
end L2
namespace G1
open PySem L2 GM
def fr (z:Str) (ks:List Str) (i:Nat):List Nat:=(z.cps.toList.take i).filter fun c=>!decide (sg1 c∈ks)
theorem fr_succ {z:Str} {ks:List Str} {i c:Nat} (h:z.cps[i]? = some c):fr z ks (i + 1)=if (!decide (sg1 c∈ks))=true then fr z ks i ++ [c] else fr z ks i:=by
 have h:z.cps.toList[i]? = some c:=by rw [Array.getElem?_toList]; exact h
 unfold fr
 rw [List.take_add_one,h,List.filter_append]
 by_cases e:(!decide (sg1 c∈ks))=true
 ·rw [if_pos e]
  simp only [Option.toList,List.filter_cons,e,if_true,List.filter_nil]
 ·rw [if_neg e]
  simp only [Option.toList,List.filter_cons,e,if_false,List.filter_nil,List.append_nil]
  simp
theorem fr_len {z:Str} {ks:List Str} {i:Nat} (l:z.cps.size≤26):(fr z ks i).length≤26:=by
 have h1:(fr z ks i).length≤(z.cps.toList.take i).length:=List.length_filter_le ..
 have h2:z.cps.toList.length=z.cps.size:=Array.length_toList
 rw [List.length_take] at h1
 omega
theorem fr_all {z:Str} {ks:List Str}:fr z ks z.cps.size=z.cps.toList.filter fun c=>!decide (sg1 c∈ks):=by
 unfold fr
 rw [List.take_of_length_le (by rw [Array.length_toList]; exact Nat.le_refl _)]
theorem drop_one {a:Nat}:∀{l:List Nat},l.Nodup→l.length≤(l.filter fun c=>c≠a).length + 1
 | [],_=>by simp
 | b :: l,h=>by
  obtain ⟨h1,h2⟩:=List.nodup_cons.mp h
  by_cases e:b=a
  ·have:l.filter (fun c=>c≠a)=l:=List.filter_eq_self.mpr fun c hc=>by
    have:c≠a:=fun z=>h1 (by rw [e,← z]; exact hc)
    simpa using this
   rw [List.filter_cons,if_neg (by simpa using e),this]
   simp
  ·rw [List.filter_cons,if_pos (by simpa using e)]
   have:=drop_one (a:=a) h2
   simp only [List.length_cons]
   omega
theorem left_many {l:List Nat} (nd:l.Nodup):∀ks:List Str,l.length≤(l.filter fun c=>!decide (sg1 c∈ks)).length + ks.length
 | []=>by
  have:l.filter (fun c=>!decide (sg1 c∈([]:List Str)))=l:=List.filter_eq_self.mpr fun c hc=>by simp
  rw [this]; simp
 | k :: ks=>by
  have ih:=left_many nd ks
  have e:l.filter (fun c=>!decide (sg1 c∈k :: ks))=(l.filter fun c=>!decide (sg1 c∈ks)).filter fun c=>!decide (sg1 c=k):=by
   rw [List.filter_filter]
   congr 1
   funext c
   by_cases h1:sg1 c=k <;> by_cases h2:sg1 c∈ks <;> simp [h1,h2]
  rw [e]
  have nd2:(l.filter fun c=>!decide (sg1 c∈ks)).Nodup:=nd.sublist List.filter_sublist
  generalize (l.filter fun c=>!decide (sg1 c∈ks))=m at ih nd2
  by_cases h:∃c,sg1 c=k
  ·obtain ⟨a,ha⟩:=h
   have:=drop_one (a:=a) nd2
   have e2:(fun c=>!decide (sg1 c=k))=fun c:Nat=>decide (c≠a):=by
    funext c
    by_cases z:c=a
    ·simp [z,ha]
    ·have:¬sg1 c=k:=fun y=>z (sg1_inj (y.trans ha.symm))
     simp [z,this]
   rw [e2]
   simp only [List.length_cons]
   omega
  ·have:m.filter (fun c=>!decide (sg1 c=k))=m:=List.filter_eq_self.mpr fun c hc=>by
    have:¬sg1 c=k:=fun y=>h ⟨c,y⟩
    simp [this]
   rw [this]
   simp only [List.length_cons]
   omega
theorem az_nd:("abcdefghijklmnopqrstuvwxyz" : Str).cps.toList.Nodup:=by decide +kernel
theorem za_nd:("zyxwvutsrqponmlkjihgfedcba" : Str).cps.toList.Nodup:=by decide +kernel
theorem az_occ:∀c∈("abcdefghijklmnopqrstuvwxyz" : Str).cps.toList,occ c=true:=by decide +kernel
theorem za_occ:∀c∈("zyxwvutsrqponmlkjihgfedcba" : Str).cps.toList,occ c=true:=by decide +kernel
section
variable {P:Program} {w:World} {K:PySem.W.Frag} {mg:Str→Option Value} {base:Heap} {c:List Addr}
def spStranger:Sp:=fun vs H Q _=>∃(N:Addr) (ks:List Str),vs=[.ref N]∧H N=some (.lst (txs ks))∧ks.length≤10∧∀d H',occ d=true→sg1 d∉ks→Same H H'→Q (.str (sg1 d)) H'
theorem scSr:FnScope ["_law_names"] ["_law_names"] (defScope sStranger):=⟨rfl,rfl,rfl,by decide +kernel,rfl,by decide +kernel,by decide +kernel⟩
theorem ok_stranger {f:Addr} {fd:FuncData} (F:FunG K "_law_stranger" "_law_stranger" sStranger .none f fd) (B:Bl mg):FnOk P w K mg base (CXE P w) 1 f fd ["_law_names"] spStranger:=by
 refine F.zokN scSr (fun vs H Q E h=>?_) (fun cdv A outer s H vs Q E hr h=>?_)
 ·obtain ⟨N,ks,rfl,_⟩:=h
  rfl
 ·obtain ⟨N,ks,rfl,hN,k10,q⟩:=h
  refine ⟨_,(zpss_one (zps_ret (zpe_ix ix_list (zpe_compL ["_law_names"] ["_law_sign"] [0] (defScope sStranger) rfl rfl rfl ⟨by decide +kernel,by decide +kernel,by decide +kernel,by decide +kernel,by decide +kernel⟩ (zpi_str zpe_str) (fun s H fp=>(zpg_name (i:=0) (show List.Nodup [("_law_sign" : Str),"_law_names"] by decide +kernel) rfl (Or.inl rfl))) (fun s H fp=>(zpts_one (zpt_cmpR (op_notIn_seqK K rfl) (zpv 0) (zpv 1) rfl))) (fun s H fp=>(zpv 0))) zpe_int (fun _ _=>rfl)))),?_⟩
  refine ⟨_,rfl,?_⟩
  (intro l gl; generalize hEq:upd _ l _=H1; refine newC hEq gl ?_; clear hEq; intro S1 el ol)
  refine lr_str (fun i σ H'=>(∃v,σ=[v,some (.ref N)])∧Same H H'∧H' l=some (.lst (txs (sgs (fr "abcdefghijklmnopqrstuvwxyz" ks i))))) ⟨⟨_,rfl⟩,S1,el⟩ ?_ ?_
  ·rintro i cc σ H' C hi ⟨⟨v,rfl⟩,k2,hl⟩ nx
   refine ⟨_,rfl,_,rfl,N,_,rfl,.inl (SqL.of (k2 _ _ hN)),rfl,List.all_eq_true.mpr (fun y hy=>txs_flatM y hy),_,rfl,?_⟩
   dsimp only
   rw [if_pos rfl,show (V.str {cps:=#[cc]})=V.str (sg1 cc) from rfl,inV_txs]
   have fs:=fr_succ (ks:=ks) hi
   by_cases b:(!decide (sg1 cc∈ks))=true
   ·rw [if_pos b]
    rw [if_pos b] at fs
    refine ⟨_,rfl,_,hl,?_,nx _ _ ⟨⟨_,rfl⟩,fun a o e=>?_,?_⟩⟩
    ·have:=fr_len (z:="abcdefghijklmnopqrstuvwxyz") (ks:=ks) (i:=i) (by decide)
     rw [txs_len,sgs_len]
     exact Nat.lt_of_le_of_lt this (by decide)
    ·rw [upd_ne (ne_of_none e gl)]; exact k2 _ _ e
    ·rw [fs,sgs_append]
     show upd H' l _ l=_
     rw [show txs (sgs (fr "abcdefghijklmnopqrstuvwxyz" ks i)) ++ [V.str (sg1 cc)]=txs (sgs (fr "abcdefghijklmnopqrstuvwxyz" ks i) ++ sgs [cc]) from by rw [txs_snoc]; rfl]
     exact upd_same
   ·rw [if_neg b]
    rw [if_neg b] at fs
    refine nx _ _ ⟨⟨_,rfl⟩,k2,?_⟩
    rw [fs]; exact hl
  rintro σ H2 ⟨_,s2,hl⟩
  rw [fr_all] at hl
  have many:=left_many az_nd ks
  have l26:("abcdefghijklmnopqrstuvwxyz" : Str).cps.toList.length=26:=by decide +kernel
  have mem:∀c∈("abcdefghijklmnopqrstuvwxyz" : Str).cps.toList.filter (fun c=>!decide (sg1 c∈ks)),occ c=true∧sg1 c∉ks:=fun c hc=>by
   obtain ⟨h1,h2⟩:=List.mem_filter.mp hc
   exact ⟨az_occ c h1,by simpa using h2⟩
  generalize ("abcdefghijklmnopqrstuvwxyz" : Str).cps.toList.filter (fun c=>!decide (sg1 c∈ks))=m at hl many mem
  match m,hl,many,mem with
  | [],_,many,_=>exact absurd many (by simp only [List.length_nil]; omega)
  | d :: m,hl,_,mem=>
   obtain ⟨h1,h2⟩:=mem d (List.mem_cons_self ..)
   exact ⟨l,_,_,_,rfl,rfl,SqL.of hl,atI_nat (j:=0) rfl,q d H2 h1 h2 s2⟩
def spMoreS:Sp:=fun vs H Q _=>∃(S p:Addr) (m:Nat) (xs:List V) (cs:List Nat),vs=[.ref S,.int m]∧Src H p∧rem H p S=some (.lst xs)∧Rows (rem H p) xs cs∧2≤cs.length∧cs.length≤6∧7≤m∧m≤30∧
 ∀L H',H L=none→Same H H'→rem H' p L=H' L→BadS (rem H' p) (.ref L)→Q (.ref L) H'
theorem scMo:FnScope ["_law_signs_here","_law_many","_law_names","_law_letters"] ["_law_signs_here","_law_many"] (defScope sMoreS):=⟨rfl,rfl,rfl,by decide +kernel,rfl,by decide +kernel,by decide +kernel⟩
theorem ok_moreS {f:Addr} {fd:FuncData} (F:FunG K "_law_more_signs" "_law_more_signs" sMoreS .none f fd) (B:Bl mg):FnOk P w K mg base (CXE P w) 1 f fd ["_law_signs_here","_law_many"] spMoreS:=by
 refine F.zokN scMo (fun vs H Q E h=>?_) (fun cdv A outer s H vs Q E hr h=>?_)
 ·obtain ⟨S,p,m,xs,cs,rfl,_⟩:=h
  rfl
 ·obtain ⟨S,p,m,xs,cs,rfl,sr,hS,rw_,c2,c6,m7,m30,q⟩:=h
  refine ⟨_,(zpss_cons (zps_set (i:=2) scMo.nd rfl (Or.inr rfl) (zpe_compL ["_law_signs_here","_law_many","_law_names","_law_letters"] ["_law_one"] [] (defScope sMoreS) rfl rfl rfl ⟨by decide +kernel,by decide +kernel,by decide +kernel,by decide +kernel,by decide +kernel⟩ (zpi_list (zpv 0)) (fun s H fp=>(zpg_name (i:=0) (show List.Nodup [("_law_one" : Str)] by decide +kernel) rfl (Or.inl rfl))) (fun s H fp=>zpts_nil) (fun s H fp=>(zpe_ix (ix_tupK K rfl) (zpv 0) zpe_int (fun _ _=>rfl)))))
   (zpss_cons (zps_compL (i:=3) ["_law_signs_here","_law_many","_law_names","_law_letters"] ["_law_letter"] [2] (defScope sMoreS) rfl rfl rfl ⟨by decide +kernel,by decide +kernel,by decide +kernel,by decide +kernel,by decide +kernel⟩ scMo.nd rfl (Or.inl rfl) (zpi_str zpe_str) (fun s H fp=>(zpg_name (i:=0) (show List.Nodup [("_law_letter" : Str),"_law_names"] by decide +kernel) rfl (Or.inl rfl))) (fun s H fp=>(zpts_one (zpt_cmpR (op_notIn_seqK K rfl) (zpv 0) (zpv 1) rfl))) (fun s H fp=>(zpv 0)))
   (zpss_one (zps_ret (zpe_slice sl_list (zpe_op op_cat (zpv 0) (zpe_compL ["_law_signs_here","_law_many","_law_names","_law_letters"] ["_law_letter"] [0] (defScope sMoreS) rfl rfl rfl ⟨by decide +kernel,by decide +kernel,by decide +kernel,by decide +kernel,by decide +kernel⟩ (zpi_list (zpv 3)) (fun s H fp=>(zpg_name (i:=0) (show List.Nodup [("_law_letter" : Str),"_law_signs_here"] by decide +kernel) rfl (Or.inl rfl))) (fun s H fp=>zpts_nil) (fun s H fp=>(zpe_tup (zpac_n (zpv 0) (zpac_s (zpe_ix (ix_tupK K rfl) (zpe_ix (ix_listK K rfl) (zpv 1) zpe_int (fun _ _=>rfl)) zpe_int (fun _ _=>rfl)) (zpac_s (zpe_ix (ix_tupK K rfl) (zpe_ix (ix_listK K rfl) (zpv 1) zpe_int (fun _ _=>rfl)) zpe_int (fun _ _=>rfl)) zpa_nil))))))) zpo_none (zpo_some (zpv 1))))))),?_⟩
  have xl:xs.length=cs.length:=rw_.len
  have fS:=rem_same _ _ hS
  have e0:xs[0]? = some (xs[0]'(by omega)):=List.getElem?_eq_getElem _
  generalize xs[0]'(by omega)=x0 at e0
  obtain ⟨cc0,hc0,row0⟩:=rw_.at e0
  obtain ⟨a0,p0,l0,rfl,ha0,hp0,hl0⟩:=row0.ex
  have thr:∀y∈xs,ThR (rem H p) y:=fun y hy=>by
   obtain ⟨i,hi⟩:=List.getElem?_of_mem hy
   obtain ⟨c',_,r⟩:=rw_.at hi
   exact r.thr
  have tl0:ThD (rem H p) l0:=by
   rcases hl0 with rfl | hl
   ·exact th_one rfl nofun
   ·exact hl.thd
  have rowT:∀{H':Hp},Same H H'→∀{i:Nat} {x:V},xs[i]? = some x→∃a c p l,x = .ref a∧H' a=some (.tup [.str (sg1 c),p,l])∧cs[i]? = some c:=fun s i x hi=>by
   obtain ⟨c,hc,row⟩:=rw_.at hi
   obtain ⟨a,p,la,rfl,ha,_⟩:=row.ex
   exact ⟨a,c,p,la,rfl,s _ _ (rem_same _ _ ha),hc⟩
  refine ⟨_,rfl,S,rfl,⟨_,SqL.of fS⟩,?_⟩
  (intro N gN; generalize hEq:upd _ N _=H1; refine newC hEq gN ?_; clear hEq; intro S1 eN oN)
  refine lr_list (K:=K) (S:=S) (xs:=xs) (fun i σ H'=>(∃v,σ=[v])∧Same H H'∧H' N=some (.lst (txs (sgs (cs.take i))))) ⟨⟨_,rfl⟩,S1,eN⟩ (fun i σ H' p=>SqL.of (p.2.1 _ _ fS)) ?_ ?_
  ·rintro i x σ H' C hi ⟨⟨v,rfl⟩,s',hN⟩ nx
   obtain ⟨a,c,pp,la,rfl,ha,hc⟩:=rowT s' hi
   refine ⟨_,rfl,a,_,_,_,rfl,rfl,SqT.of ha,rfl,_,hN,?_,nx _ _ ⟨⟨_,rfl⟩,fun b o hb=>?_,?_⟩⟩
   ·rw [txs_len,sgs_len,List.length_take]
    exact Nat.lt_of_le_of_lt (show min i cs.length≤6 by omega) (by decide)
   ·rw [upd_ne (ne_of_none hb gN)]; exact s' b o hb
   ·have:txs (sgs (cs.take i)) ++ [V.str (sg1 c)]=txs (sgs (cs.take (i + 1))):=by
     rw [List.take_add_one,hc,sgs_append,txs_app]; rfl
    rw [← this]; exact upd_same
  rintro σ0 H2 ⟨_,S2,hN⟩
  rw [List.take_of_length_le (by omega)] at hN
  generalize hks:sgs cs=ks at hN
  have k6:ks.length≤6:=by rw [← hks,sgs_len]; exact c6
  refine ⟨_,rfl,?_⟩
  (intro T gT; generalize hEq:upd _ T _=H3; refine newC hEq gT ?_; clear hEq; intro S3 eT oT)
  have S23:=S2.trans S3
  refine lr_str (fun i σ H'=>(∃v,σ=[v,some (.ref N)])∧Same H2 H'∧H' T=some (.lst (txs (sgs (fr "zyxwvutsrqponmlkjihgfedcba" ks i))))) ⟨⟨_,rfl⟩,S3,eT⟩ ?_ ?_
  ·rintro i cc σ H' C hi ⟨⟨v,rfl⟩,k2,hl⟩ nx
   refine ⟨_,rfl,_,rfl,N,_,rfl,.inl (SqL.of (k2 _ _ hN)),rfl,List.all_eq_true.mpr (fun y hy=>txs_flatM y hy),_,rfl,?_⟩
   dsimp only
   rw [if_pos rfl,show (V.str {cps:=#[cc]})=V.str (sg1 cc) from rfl,inV_txs]
   have fs:=fr_succ (ks:=ks) hi
   by_cases b:(!decide (sg1 cc∈ks))=true
   ·rw [if_pos b]
    rw [if_pos b] at fs
    refine ⟨_,rfl,_,hl,?_,nx _ _ ⟨⟨_,rfl⟩,fun a o e=>?_,?_⟩⟩
    ·have:=fr_len (z:="zyxwvutsrqponmlkjihgfedcba") (ks:=ks) (i:=i) (by decide)
     rw [txs_len,sgs_len]
     exact Nat.lt_of_le_of_lt this (by decide)
    ·rw [upd_ne (ne_of_none e gT)]; exact k2 _ _ e
    ·rw [fs,sgs_append]
     show upd H' T _ T=_
     rw [show txs (sgs (fr "zyxwvutsrqponmlkjihgfedcba" ks i)) ++ [V.str (sg1 cc)]=txs (sgs (fr "zyxwvutsrqponmlkjihgfedcba" ks i) ++ sgs [cc]) from by rw [txs_snoc]; rfl]
     exact upd_same
   ·rw [if_neg b]
    rw [if_neg b] at fs
    refine nx _ _ ⟨⟨_,rfl⟩,k2,?_⟩
    rw [fs]; exact hl
  rintro σ1 H4 ⟨_,S4,hT⟩
  have S04:=S2.trans S4
  rw [fr_all] at hT
  have many:=left_many za_nd ks
  have few:(("zyxwvutsrqponmlkjihgfedcba" : Str).cps.toList.filter fun c=>!decide (sg1 c∈ks)).length≤26:=Nat.le_trans (List.length_filter_le ..) (by decide +kernel)
  have l26:("zyxwvutsrqponmlkjihgfedcba" : Str).cps.toList.length=26:=by decide +kernel
  have mem:∀c∈("zyxwvutsrqponmlkjihgfedcba" : Str).cps.toList.filter (fun c=>!decide (sg1 c∈ks)),occ c=true:=fun c hc=>za_occ c (List.mem_filter.mp hc).1
  generalize ("zyxwvutsrqponmlkjihgfedcba" : Str).cps.toList.filter (fun c=>!decide (sg1 c∈ks))=ds at hT many few mem
  have at0:atI xs 0=some (V.ref a0):=atI_nat (j:=0) e0
  have s3:3≤sizeLine:=by decide
  have R04:Same (rem H p) (rem H4 p):=rem_mono S04
  have sr4:=sr.same S04
  refine ⟨_,rfl,_,rfl,T,rfl,⟨_,SqL.of hT⟩,?_⟩
  (intro M gM; generalize hEq:upd _ M _=H5; refine newC hEq gM ?_; clear hEq; intro S5 eM oM)
  have S05:=S04.trans S5
  have sr5:=sr4.same S5
  refine lr_list (K:=K) (S:=T) (xs:=txs (sgs ds)) (fun i σ H'=>(∃v,σ=[v,some (.ref S)])∧Same H4 H'∧∃ys,H' M=some (.lst ys)∧ys.length=i∧∀y∈ys,ThR (rem (rem H' p) M) y) ⟨⟨_,rfl⟩,S5,[],eM,rfl,nofun⟩ (fun i σ H' p=>SqL.of (p.2.1 _ _ hT)) ?_ ?_
  ·rintro i x σ H' C hi ⟨⟨v,rfl⟩,s',ys,hM,yl,yr⟩ nx
   obtain ⟨z,hz,rfl⟩:∃z,(sgs ds)[i]? = some z∧x = .str z:=by
    unfold txs at hi
    rw [List.getElem?_map] at hi
    obtain ⟨z,e1,e2⟩:=Option.map_eq_some_iff.mp hi
    exact ⟨z,e1,e2.symm⟩
   obtain ⟨d,hd,rfl⟩:∃d,ds[i]? = some d∧sg1 d=z:=by
    unfold sgs at hz
    rw [List.getElem?_map] at hz
    exact Option.map_eq_some_iff.mp hz
   have s0':=S04.trans s'
   have fS':=s0' _ _ fS
   have fa':=s0' _ _ (rem_same _ _ ha0)
   refine ⟨_,rfl,_,rfl,S,_,_,_,rfl,rfl,SqL.of fS',at0,a0,_,_,_,rfl,rfl,SqT.of fa',rfl,_,rfl,S,_,_,_,rfl,rfl,SqL.of fS',at0,a0,_,_,_,rfl,rfl,SqT.of fa',rfl,s3,?_⟩
   (intro r gr; generalize hEq:upd _ r _=H6; refine newC hEq gr ?_; clear hEq; intro S6 er or)
   have sr':=sr.same s0'
   have nr:=sr'.ne gr
   have il:i < ds.length:=(List.getElem?_eq_some_iff.mp hd).1
   have mp:M≠p:=sr4.ne gM
   have ru:=S6 _ _ hM
   refine ⟨_,S6 _ _ hM,Nat.lt_of_le_of_lt (show ys.length≤26 by omega) (by decide),nx _ _ ⟨⟨_,rfl⟩,fun b o e=>?_,ys ++ [.ref r],upd_same,by rw [List.length_append,yl]; rfl,?_⟩⟩
   ·rw [upd_ne (ne_of_none e gM)]; exact S6 _ _ (s' _ _ e)
   have rm:r≠M:=fun z=>by rw [z,hM] at gr; cases gr
   have nw0:Same (rem H p) (rem (rem H6 p) M):=(rem2_new (none_back S04 gM) (s0'.trans S6))
   refine all_snoc (fun y hy=>((yr y hy).kp (Kp.same (rem2_mono S6))).kp (Kp.same rem2_upd)) ((thr_of (x:=.str (sg1 d)) (y:=p0) (z:=l0) (by rw [rem_ne rm,rem_ne nr]; exact er) sgl (hp0.thd.kp (Kp.same nw0)) (tl0.kp (Kp.same nw0))).kp (Kp.same rem2_upd))
  rintro σ2 H7 ⟨_,S7,ys,hM,yl,yr⟩
  have fS7:=S7 _ _ (S04 _ _ fS)
  have S07:=S04.trans S7
  have sr7:=sr.same S07
  refine ⟨S,M,_,_,rfl,rfl,fS7,hM,Nat.le_trans (show xs.length + ys.length≤100 by rw [txs_len,sgs_len] at yl; omega) (by decide),?_⟩
  (intro Z gZ; generalize hEq:upd _ Z _=H8; refine newC hEq gZ ?_; clear hEq; intro S8 eZ oZ)
  refine ⟨_,rfl,_,rfl,Z,_,rfl,SqL.of eZ,?_⟩
  (intro L gL; generalize hEq:upd _ L _=H9; refine newC hEq gL ?_; clear hEq; intro S9 eL oL)
  rw [cut_to] at eL
  have S09:=(S07.trans S8).trans S9
  have np:L≠p:=(sr7.same S8).ne gL
  refine q L H9 (none_back S07 (none_back S8 gL)) S09 (rem_ne np) (badS_len (xs:=(xs ++ ys).take m) ((rem_ne np).trans eL) (fun y hy=>?_) (.inr ?_))
  ·rcases List.mem_append.mp (List.mem_of_mem_take hy) with h | h
   ·exact (thr y h).kp (Kp.same (rem_mono S09))
   ·exact ((yr y h).kp (Kp.same rem_same)).kp (Kp.same (rem_mono (S8.trans S9)))
  ·rw [txs_len,sgs_len] at yl
   rw [List.length_take,List.length_append]
   have:26≤ds.length + 6:=by omega
   omega
end
theorem rem_eq {H H':Hp} {p:Addr} (h:∀b,b≠p→H' b=H b):rem H' p=rem H p:=by
 funext b
 unfold rem
 split
 ·rfl
 ·rename_i n; exact h b n
theorem rem_eqS {H H':Hp} {p:Addr} (h:∀b,b≠p→H' b=H b):Same (rem H p) (rem H' p):=by
 rw [rem_eq h]; exact Same.refl _
theorem seq_cut {a b:TS} {D:Ends} {σ:St} {H:Hp} (h:∀NX:St→Hp→Prop,(∀σ H,b D σ H→NX σ H)→a {D with nx:=NX} σ H):tSeq a b D σ H:=h _ fun _ _ z=>z
theorem rem_none {H:Hp} {p a:Addr} (g:H a=none):rem H p a=none:=by
 unfold rem
 split
 ·rfl
 ·exact g
def Fr (H:Hp) (p:Addr) (y:V):Prop:=∀a,y = .ref a→rem H p a=none
theorem fr_ref {H:Hp} {p a:Addr} (h:rem H p a=none):Fr H p (.ref a):=fun b e=>by cases e; exact h
theorem br_dup {H:Hp} {cs:List Nat} {j d:Nat} {a:Addr} {p l:V} (h:H a=some (.tup [.str (sg1 d),p,l])) (e:cs[j]? = some d) (tp:ThD H p) (tl:ThD H l):BR H cs j (.ref a):=⟨thr_of h sgl tp tl,fun c ⟨a',p',l',e',ha,_⟩=>by
 cases e'
 rw [h] at ha
 injection ha with z
 injection z with z
 injection z with z1 z2
 injection z1 with z1
 rw [e,sg1_inj z1]⟩
theorem nl_str {H:Hp} {z:Str} (l:z.length≤700) (n:(z.length≠1∨∀c,occ c=true→z≠sg1 c)):NL H (.str z):=nl_flat rfl (fun y e=>by injection e with e; rw [← e]; exact l) (fun c oc e=>by
 injection e with e
 rcases n with n | n
 ·exact n (by rw [e]; rfl)
 ·exact n c oc e)
theorem nl_far {H:Hp} {c:Nat} (o:occ c=false):NL H (.str ⟨#[c]⟩):=nl_str (by show 1≤700; decide) (.inr fun d od e=>by
 have:c=d:=sg1_inj e
 rw [this,od] at o; cases o)
theorem nl_two {H:Hp} {c d:Nat}:NL H (.str (sg1 c ++ sg1 d)):=nl_str (by show 2≤700; decide) (.inl (by show ¬2=1; decide))
theorem two_le {c d:Nat}:(sg1 c).length + (sg1 d).length≤sizeLine:=by show 2≤sizeLine; decide
theorem np_flat {H:Hp} {x:V} (f:flatV x=true) (sl:∀z,x = .str z→z.length≤700):NP H x:=⟨⟨flat_th f,fun a xs e=>(by rw [e] at f; cases f),fun a n d e=>(by rw [e] at f; cases f),fun z e=>Nat.le_trans (sl z e) (by decide)⟩,fun ⟨a,n,d,e,_⟩=>by rw [e] at f; cases f⟩
theorem np_lst {H:Hp} {a:Addr} {xs:List V} (h:H a=some (.lst xs)):NP H (.ref a):=⟨thd_lst h,fun ⟨b,n,d,e,hb,_⟩=>by cases e; rw [h] at hb; cases hb⟩
theorem np_tup {H:Hp} {a:Addr} {xs:List V} (h:H a=some (.tup xs)) (t:∀z∈xs,Th H z) (few:∀n d,xs≠[.int n,.int d]):NP H (.ref a):=⟨thd_tup h t few,fun ⟨b,n,d,e,hb,_⟩=>by cases e; rw [h] at hb; cases hb; exact few n d rfl⟩
theorem np_frac {H:Hp} {a:Addr} {n d:Int} (h:H a=some (.tup [.int n,.int d])) (d1:d.natAbs < big) (no:¬(0 < n∧0 < d∧Nat.gcd n.natAbs d.natAbs=1)):NP H (.ref a):=⟨th_frac h d1,fun ⟨b,n',d',e,hb,z⟩=>by cases e; rw [h] at hb; cases hb; exact no z⟩
theorem nla_of {H:Hp} {x:V} (h:NP H x) (n:x≠.non):NLa H x:=⟨h.1,n,h.2⟩
theorem th_flats {H:Hp} {xs:List V} (f:xs.all flatV=true):∀z∈xs,Th H z:=fun z hz=>flat_th (List.all_eq_true.mp f z hz)
theorem odd_occ:∀c∈(" !\"#$&'()*+,-./0123456789:;<=>?@ABCDEFGHIJKLMNOPQRSTUVWXYZ[\\]^_`{|}~\n\t" : Str).cps.toList,occ c=false:=by decide +kernel
theorem lr_rows {K:PySem.W.Frag} {Bd M p:Addr} {bs:List V} {te:TE} {σ0:List (Option V)} {v0:Option V} {f:V→List V} {R:Hp→V→Prop} {H0 H:Hp} {N:St→Hp→Prop}
  (RS:∀{H H':Hp} {y:V},R H y→Same H H'→R H' y)
  (mk:∀(x:V) (G:Hp) (r:Addr),x∈bs→Same (rem H0 p) G→G r=some (.tup (f x))→R G (.ref r))
  (ev:∀(x:V) (H:Hp) (Q:VK),(∀r,H r=none→Q (.ref r) (upd H r (.tup (f x))))→te (some x :: σ0) H Q)
  (gM:H0 M=none) (sr:Src H0 p) (S0:Same H0 H) (eM:H M=some (.lst [])) (hB:H0 Bd=some (.lst bs)) (bl:bs.length≤50)
  (fin:∀(σ:St) (H':Hp) (ys:List V),Same H0 H'→H' M=some (.lst ys)→ys.length=bs.length→(∀y∈ys,R (rem H' p) y)→N σ H') :
  LR (Itl K Bd) (gName 0) (fun x H Q=>Q true H) (tEmL M te) (v0 :: σ0) H N:=by
 refine lr_list (K:=K) (S:=Bd) (xs:=bs) (fun i σ H'=>(∃v,σ=v :: σ0)∧Same H0 H'∧∃ys,H' M=some (.lst ys)∧ys.length=i∧∀y∈ys,R (rem (rem H' p) M) y) ⟨⟨_,rfl⟩,S0,[],eM,rfl,nofun⟩ (fun i σ H' p=>SqL.of (p.2.1 _ _ hB)) ?_ ?_
 ·rintro i x σ H' C hi ⟨⟨v,rfl⟩,s',ys,hM,yl,yr⟩ nx
  have il:i < bs.length:=(List.getElem?_eq_some_iff.mp hi).1
  show tEmL M te (some x :: σ0) H' C
  refine ev x H' _ fun r gr=>?_
  have er:upd H' r (.tup (f x)) r=some (.tup (f x)):=upd_same
  have S6:Same H' (upd H' r (.tup (f x))):=same_upd gr
  generalize upd H' r (.tup (f x))=H6 at er S6
  have sr':=sr.same s'
  have nr:=sr'.ne gr
  have rm:r≠M:=fun z=>by rw [z,hM] at gr; cases gr
  refine ⟨_,S6 _ _ hM,Nat.lt_of_le_of_lt (show ys.length≤50 by omega) (by decide),nx _ _ ⟨⟨_,rfl⟩,fun b o e=>?_,ys ++ [.ref r],upd_same,by rw [List.length_append,yl]; rfl,?_⟩⟩
  ·rw [upd_ne (ne_of_none e gM)]; exact S6 _ _ (s' _ _ e)
  refine all_snoc (fun y hy=>RS (RS (yr y hy) (rem2_mono S6)) rem2_upd) (RS (mk x (rem (rem H6 p) M) r (List.mem_of_getElem? hi) (rem2_new gM (s'.trans S6)) (by rw [rem_ne rm,rem_ne nr]; exact er)) rem2_upd)
 ·rintro σ H' ⟨_,s',ys,hM,yl,yr⟩
  exact fin σ H' ys s' hM yl fun y hy=>RS (yr y hy) rem_same
section
variable {P:Program} {w:World} {K:PySem.W.Frag} {mg:Str→Option Value} {base:Heap} {c:List Addr}
def spBadS:Sp:=fun vs H Q _=>∃(S p:Addr) (xs:List V) (cs:List Nat),vs=[.ref S,.ref p]∧Src H p∧rem H p S=some (.lst xs)∧Rows (rem H p) xs cs∧2≤cs.length∧cs.length≤6∧
 ∀x H',Src H' p→Same (rem H p) (rem H' p)→Fr H p x→BadS (rem H' p) x→Q x H'
theorem scBs:FnScope ["_law_signs_here","_law_source_here","_law_at","_law_other","_law_sign","_law_price_here","_law_last","_law_way","_law_lists","_law_some","_law_odd","_law_far","_law_bad"] ["_law_signs_here","_law_source_here"] (defScope sBadS):=⟨rfl,rfl,rfl,by decide +kernel,rfl,by decide +kernel,by decide +kernel⟩
theorem ok_badS {f fD fM:Addr} {fd fdD fdM:FuncData} (F:FunG K "_law_bad_signs" "_law_bad_signs" sBadS .none f fd) (B:Bl mg)
  (GD:FnOk P w K mg base (CXE P w) 1 fD fdD ["_law_source_here","_law_many"] spDraw) (mD:mg "_law_draw" = some (.ref fD)) (kD:PySem.W.keepIn K (.ref fD)=true) (bD:Binds K fdD ["_law_source_here","_law_many"] [])
  (GM:FnOk P w K mg base (CXE P w) 1 fM fdM ["_law_signs_here","_law_many"] spMoreS) (mM:mg "_law_more_signs" = some (.ref fM)) (kM:PySem.W.keepIn K (.ref fM)=true) (bM:Binds K fdM ["_law_signs_here","_law_many"] []):FnOk P w K mg base (CXE P w) 2 f fd ["_law_signs_here","_law_source_here"] spBadS:=by
 refine F.zokN scBs (fun vs H Q E h=>?_) (fun cdv A outer s H vs Q E hr h=>?_)
 ·obtain ⟨S,p,xs,cs,rfl,_⟩:=h
  rfl
 ·obtain ⟨S,p,xs,cs,rfl,sr,hS,rw_,c2,c6,q⟩:=h
  refine ⟨_,(zpss_cons (zps_set (i:=2) scBs.nd rfl (Or.inl rfl) (zpe_call GD hr (by rfl) mD kD bD .nil passE0 (zpac_n (zpv 1) (zpac_f (zpe_callB call_len_seq (by rfl) B.len PySem.boot_len (zpac_n (zpv 0) zpa_nil)) zpa_nil))))
   (zpss_cons (zps_set (i:=3) scBs.nd rfl (Or.inl rfl) (zpe_op op_mod (zpe_op op_add (zpv 2) zpe_int) (zpe_callB call_len_seq (by rfl) B.len PySem.boot_len (zpac_n (zpv 0) zpa_nil))))
   (zpss_cons (zps_asg (zpe_ix ix_list (zpv 0) (zpv 2) (fun _ _=>rfl)) (zpg_tup rfl (zpgs_cons (zpg_name (i:=4) scBs.nd rfl (Or.inr rfl)) (zpgs_cons (zpg_name (i:=5) scBs.nd rfl (Or.inr rfl)) (zpgs_cons (zpg_name (i:=6) scBs.nd rfl (Or.inr rfl)) zpgs_nil)))))
   (zpss_cons (zps_set (i:=7) scBs.nd rfl (Or.inl rfl) (zpe_call GD hr (by rfl) mD kD bD .nil passE0 (zpac_n (zpv 1) (zpac_c zpe_int zpa_nil))))
   (zpss_cons (zps_if (zpt_cmpR op_lt (zpv 7) zpe_int (nomark _)) (zpss_cons (zps_set (i:=8) scBs.nd rfl (Or.inl rfl) (zpe_lst (zpac_c zpe_non (zpac_f (zpe_callTy call_tuple_of (by rfl) B.tuple boot_tuple (zpac_n (zpv 0) zpa_nil)) (zpac_l (zpe_lst zpa_nil) (zpac_s (zpe_slice sl_list (zpv 0) zpo_none (zpo_some zpe_int)) (zpac_s (zpe_slice sl_list (zpe_op op_rep (zpv 0) zpe_int) zpo_none (zpo_some zpe_int)) (zpac_f (zpe_call GM hr (by rfl) mM kM bM .nil passE0 (zpac_n (zpv 0) (zpac_c zpe_int zpa_nil))) (zpac_c zpe_int (zpac_d zpe_dict0 (zpac_c zpe_str zpa_nil)))))))))))
   (zpss_one (zps_ret (zpe_ix ix_list (zpe_op op_cat (zpv 8) (zpe_lst (zpac_f (zpe_call GM hr (by rfl) mM kM bM .nil passE0 (zpac_n (zpv 0) (zpac_c zpe_int zpa_nil))) zpa_nil))) (zpv 7) (fun _ _=>rfl))))) zpss_nil)
   (zpss_cons (zps_set (i:=9) scBs.nd rfl (Or.inl rfl) (zpe_lst (zpac_c zpe_non (zpac_l (zpe_lst (zpac_n (zpv 4) (zpac_n (zpv 5) (zpac_n (zpv 6) zpa_nil)))) (zpac_t (zpe_tup (zpac_n (zpv 4) (zpac_n (zpv 5) zpa_nil))) (zpac_t (zpe_tup (zpac_n (zpv 4) (zpac_n (zpv 5) (zpac_n (zpv 6) (zpac_n (zpv 6) zpa_nil))))) (zpac_n (zpv 4) (zpac_t (zpe_tup (zpac_s (zpe_ix ix_tup (zpe_ix ix_list (zpv 0) (zpv 3) (fun _ _=>rfl)) zpe_int (fun _ _=>rfl)) (zpac_n (zpv 5) (zpac_n (zpv 6) zpa_nil)))) zpa_nil))))))))
   (zpss_cons (zps_set (i:=10) scBs.nd rfl (Or.inl rfl) zpe_str)
   (zpss_cons (zps_set (i:=11) scBs.nd rfl (Or.inl rfl) (zpe_ix ix_str (zpv 10) (zpe_call GD hr (by rfl) mD kD bD .nil passE0 (zpac_n (zpv 1) (zpac_f (zpe_callB call_len_str (by rfl) B.len PySem.boot_len (zpac_n (zpv 10) zpa_nil)) zpa_nil))) (fun _ _=>rfl)))
   (zpss_cons (zps_set (i:=12) scBs.nd rfl (Or.inl rfl) (zpe_lst (zpac_c zpe_str (zpac_b (zpe_op op_add_str (zpv 4) (zpv 4)) (zpac_n (zpv 11) (zpac_c zpe_str (zpac_c zpe_str (zpac_c zpe_int (zpac_c zpe_non (zpac_l (zpe_lst (zpac_n (zpv 4) zpa_nil)) (zpac_t (zpe_tup (zpac_n (zpv 4) zpa_nil)) (zpac_c zpe_str (zpac_c zpe_str zpa_nil)))))))))))))
   (zpss_cons (zps_set (i:=9) scBs.nd rfl (Or.inl rfl) (zpe_op op_cat (zpv 9) (zpe_compL ["_law_signs_here","_law_source_here","_law_at","_law_other","_law_sign","_law_price_here","_law_last","_law_way","_law_lists","_law_some","_law_odd","_law_far","_law_bad"] ["_law_one"] [5,6] (defScope sBadS) rfl rfl rfl ⟨by decide +kernel,by decide +kernel,by decide +kernel,by decide +kernel,by decide +kernel⟩ (zpi_list (zpv 12)) (fun s H fp=>(zpg_name (i:=0) (show List.Nodup [("_law_one" : Str),"_law_price_here","_law_last"] by decide +kernel) rfl (Or.inl rfl))) (fun s H fp=>zpts_nil) (fun s H fp=>(zpe_tup (zpac_n (zpv 0) (zpac_n (zpv 1) (zpac_n (zpv 2) zpa_nil))))))))
   (zpss_cons (zps_set (i:=12) scBs.nd rfl (Or.inl rfl) (zpe_lst (zpac_t (zpe_tup (zpac_c zpe_int (zpac_c zpe_int zpa_nil))) (zpac_t (zpe_tup (zpac_u (zpe_un un_neg zpe_int) (zpac_c zpe_int zpa_nil))) (zpac_t (zpe_tup (zpac_c zpe_int (zpac_c zpe_int zpa_nil))) (zpac_t (zpe_tup (zpac_c zpe_int (zpac_c zpe_int zpa_nil))) (zpac_t (zpe_tup (zpac_c zpe_int (zpac_u (zpe_un un_neg zpe_int) zpa_nil))) (zpac_c zpe_int (zpac_c zpe_int (zpac_c zpe_non (zpac_c zpe_str (zpac_l (zpe_lst (zpac_c zpe_int (zpac_c zpe_int zpa_nil))) (zpac_t (zpe_tup (zpac_c zpe_int zpa_nil)) (zpac_t (zpe_tup (zpac_c zpe_bl (zpac_c zpe_int zpa_nil))) (zpac_t (zpe_tup (zpac_c zpe_int (zpac_c zpe_bl zpa_nil))) zpa_nil)))))))))))))))
   (zpss_cons (zps_set (i:=9) scBs.nd rfl (Or.inl rfl) (zpe_op op_cat (zpv 9) (zpe_compL ["_law_signs_here","_law_source_here","_law_at","_law_other","_law_sign","_law_price_here","_law_last","_law_way","_law_lists","_law_some","_law_odd","_law_far","_law_bad"] ["_law_one"] [4,6] (defScope sBadS) rfl rfl rfl ⟨by decide +kernel,by decide +kernel,by decide +kernel,by decide +kernel,by decide +kernel⟩ (zpi_list (zpv 12)) (fun s H fp=>(zpg_name (i:=0) (show List.Nodup [("_law_one" : Str),"_law_sign","_law_last"] by decide +kernel) rfl (Or.inl rfl))) (fun s H fp=>zpts_nil) (fun s H fp=>(zpe_tup (zpac_n (zpv 1) (zpac_n (zpv 0) (zpac_n (zpv 2) zpa_nil))))))))
   (zpss_cons (zps_set (i:=12) scBs.nd rfl (Or.inl rfl) (zpe_lst (zpac_t (zpe_tup (zpac_c zpe_int (zpac_c zpe_int zpa_nil))) (zpac_t (zpe_tup (zpac_u (zpe_un un_neg zpe_int) (zpac_c zpe_int zpa_nil))) (zpac_t (zpe_tup (zpac_c zpe_int (zpac_c zpe_int zpa_nil))) (zpac_c zpe_int (zpac_c zpe_bl (zpac_c zpe_str (zpac_t (zpe_tup (zpac_c zpe_int (zpac_c zpe_int (zpac_c zpe_int zpa_nil)))) (zpac_l (zpe_lst (zpac_c zpe_int (zpac_c zpe_int zpa_nil))) (zpac_t (zpe_tup (zpac_c zpe_non (zpac_c zpe_int zpa_nil))) zpa_nil)))))))))))
   (zpss_cons (zps_set (i:=9) scBs.nd rfl (Or.inl rfl) (zpe_op op_cat (zpv 9) (zpe_compL ["_law_signs_here","_law_source_here","_law_at","_law_other","_law_sign","_law_price_here","_law_last","_law_way","_law_lists","_law_some","_law_odd","_law_far","_law_bad"] ["_law_one"] [4,5] (defScope sBadS) rfl rfl rfl ⟨by decide +kernel,by decide +kernel,by decide +kernel,by decide +kernel,by decide +kernel⟩ (zpi_list (zpv 12)) (fun s H fp=>(zpg_name (i:=0) (show List.Nodup [("_law_one" : Str),"_law_sign","_law_price_here"] by decide +kernel) rfl (Or.inl rfl))) (fun s H fp=>zpts_nil) (fun s H fp=>(zpe_tup (zpac_n (zpv 1) (zpac_n (zpv 2) (zpac_n (zpv 0) zpa_nil))))))))
   (zpss_one (zps_ret (zpe_op op_cat (zpe_op op_cat (zpe_slice sl_list (zpv 0) zpo_none (zpo_some (zpv 2))) (zpe_lst (zpac_s (zpe_ix ix_list (zpv 9) (zpe_op op_sub (zpv 7) zpe_int) (fun _ _=>rfl)) zpa_nil))) (zpe_slice sl_list (zpv 0) (zpo_some (zpe_op op_add (zpv 2) zpe_int)) zpo_none)))))))))))))))))),?_⟩
  have sz:∀{m:Nat},m≤100→m≤sizeLine:=fun h=>Nat.le_trans h (by decide)
  have s1:1≤sizeLine:=sz (show 1≤100 by decide)
  have s2:2≤sizeLine:=sz (show 2≤100 by decide)
  have s3:3≤sizeLine:=sz (show 3≤100 by decide)
  have s4:4≤sizeLine:=sz (show 4≤100 by decide)
  have xl:xs.length=cs.length:=rw_.len
  have thr0:∀y∈xs,ThR (rem H p) y:=fun y hy=>by
   obtain ⟨i,hi⟩:=List.getElem?_of_mem hy
   obtain ⟨c',_,r⟩:=rw_.at hi
   exact r.thr
  refine ⟨_,rfl,_,rfl,S,_,rfl,.inl (SqL.of (rem_same _ _ hS)),?_⟩
  refine ⟨p,_,rfl,sr,by show (0:Int) < (xs.length:Nat); omega,Nat.lt_of_le_of_lt (show xs.length≤6 by omega) (sm2001 6 (by decide)),fun d H1 d0 dm sr1 o1=>?_⟩
  obtain ⟨i,rfl⟩:=Int.eq_ofNat_of_zero_le d0
  have hi:i < xs.length:=by omega
  have R1:=rem_eq o1
  have fS1:H1 S=some (.lst xs):=rem_same _ _ (R1 ▸ hS)
  refine ⟨_,rfl,_,_,rfl,rfl,_,rfl,S,_,rfl,.inl (SqL.of fS1),_,_,rfl,rfl,by show (0:Int) < (xs.length:Nat); omega,?_⟩
  have ex:xs[i]? = some (xs[i]'hi):=List.getElem?_eq_getElem _
  generalize xs[i]'hi=x0 at ex
  obtain ⟨cc,hc,row0⟩:=rw_.at ex
  obtain ⟨a0,p0,l0,rfl,ha0,hp0,hl0⟩:=row0.ex
  have oc0:=row0.oc
  have prT:ThD (rem H p) p0:=hp0.thd
  have lT:ThD (rem H p) l0:=by
   rcases hl0 with rfl | hl
   ·exact th_one rfl nofun
   ·exact hl.thd
  refine ⟨_,rfl,_,rfl,S,_,_,_,rfl,rfl,SqL.of fS1,atI_nat ex,a0,_,rfl,SqT.of (rem_same _ _ (R1 ▸ ha0)),rfl,_,_,rfl,_,_,rfl,_,_,rfl,rfl,?_⟩
  refine ⟨_,rfl,p,_,rfl,sr1,(by show (0:Int) < 49; decide),sm2001 49 (by decide),fun d2 H2 d20 d2m sr2 o2=>?_⟩
  obtain ⟨wy,rfl⟩:=Int.eq_ofNat_of_zero_le d20
  have hw:wy < 49:=by omega
  have R2:rem H2 p=rem H p:=(rem_eq o2).trans R1
  have j0:(fun i j:Int=>V.int (i % j)) ((i:Int) + 1) ((xs.length:Nat):Int)=V.int (((i + 1) % xs.length:Nat):Int):=by rw [Int.natCast_emod]; rfl
  have hj:(i + 1) % xs.length < xs.length:=Nat.mod_lt _ (by omega)
  have nj:(i + 1) % xs.length≠i:=by
   by_cases z:i + 1 < xs.length
   ·rw [Nat.mod_eq_of_lt z]; omega
   ·rw [show i + 1=xs.length by omega,Nat.mod_self]; omega
  rw [j0]
  generalize (i + 1) % xs.length=j at hj nj
  have ej:xs[j]? = some (xs[j]'hj):=List.getElem?_eq_getElem _
  generalize xs[j]'hj=xj at ej
  obtain ⟨cj,hcj,rowj⟩:=rw_.at ej
  obtain ⟨aj,pj,lj,rfl,haj,_⟩:=rowj.ex
  clear j0 o1 o2
  refine ⟨_,rfl,_,_,rfl,rfl,_,rfl,ite2 (fun lt=>?_) (fun ge=>?_)⟩
  ·have lt:wy < 10:=by have:=of_decide_eq_true lt; omega
   have KS:Same (rem H p) (rem H2 p):=by rw [R2]; exact Same.refl _
   have its:∀y∈([]:List V),BadS (rem H2 p) y:=nofun
   have itf:∀y∈([]:List V),Fr H p y:=nofun
   have sr:=sr2
   replace itf:=all_snoc itf (y:=V.non) (nofun)
   replace its:=all_snoc its (y:=V.non) (badS_no .non (nolist_flat rfl))
   refine ⟨_,rfl,S,xs,rfl,.inl ⟨SqL.of (rem_same _ _ (KS _ _ hS)),?_⟩⟩
   (intro u1 g_u1; generalize hEq:upd _ u1 _=A3; refine newC hEq g_u1 ?_; clear hEq; intro X e_u1 o_u1)
   clear o_u1
   have n_u1:=sr.ne g_u1
   have f_u1:=none_back KS (rem_none (p:=p) g_u1)
   replace sr:=sr.same X
   have Y:=rem_mono (S:=p) X
   have r_u1:rem A3 p u1=some _:=(rem_ne n_u1).trans e_u1
   replace KS:=KS.trans Y
   replace its:=fun y h=>(BadS.same (its y h) Y)
   clear X g_u1 n_u1 e_u1 Y
   replace itf:=all_snoc itf (y:=V.ref u1) (fr_ref f_u1)
   replace its:=all_snoc its (y:=V.ref u1) (badS_no (.tup r_u1) (nolist_tup r_u1))
   refine ⟨Nat.zero_le _,?_⟩
   (intro e2 g_e2; generalize hEq:upd _ e2 _=A4; refine newC hEq g_e2 ?_; clear hEq; intro X e_e2 o_e2)
   clear o_e2
   have n_e2:=sr.ne g_e2
   have f_e2:=none_back KS (rem_none (p:=p) g_e2)
   replace sr:=sr.same X
   have Y:=rem_mono (S:=p) X
   have r_e2:rem A4 p e2=some _:=(rem_ne n_e2).trans e_e2
   replace r_u1:=Y _ _ r_u1
   replace KS:=KS.trans Y
   replace its:=fun y h=>(BadS.same (its y h) Y)
   clear X g_e2 n_e2 e_e2 Y
   replace itf:=all_snoc itf (y:=V.ref e2) (fr_ref f_e2)
   replace its:=all_snoc its (y:=V.ref e2) (badS_len r_e2 nofun (.inl (by decide)))
   refine ⟨_,rfl,_,rfl,S,_,rfl,SqL.of (rem_same _ _ (KS _ _ hS)),?_⟩
   (intro c3 g_c3; generalize hEq:upd _ c3 _=A5; refine newC hEq g_c3 ?_; clear hEq; intro X e_c3 o_c3)
   clear o_c3
   have n_c3:=sr.ne g_c3
   have f_c3:=none_back KS (rem_none (p:=p) g_c3)
   replace sr:=sr.same X
   have Y:=rem_mono (S:=p) X
   have r_c3:rem A5 p c3=some _:=(rem_ne n_c3).trans e_c3
   replace r_u1:=Y _ _ r_u1
   replace r_e2:=Y _ _ r_e2
   replace KS:=KS.trans Y
   replace its:=fun y h=>(BadS.same (its y h) Y)
   clear X g_c3 n_c3 e_c3 Y
   rw [show cutV xs none (some 1)=xs.take 1 from cut_to xs 1] at r_c3
   replace itf:=all_snoc itf (y:=V.ref c3) (fr_ref f_c3)
   replace its:=all_snoc its (y:=V.ref c3) (badS_len r_c3 (fun y hy=>(thr0 y (List.mem_of_mem_take hy)).kp (Kp.same KS)) (.inl (by rw [List.length_take]; omega)))
   refine ⟨_,rfl,S,4,xs,rfl,rfl,(rem_same _ _ (KS _ _ hS)),by decide,by decide,sz (show xs.length * 4≤100 by omega),?_⟩
   (intro m4 g_m4; generalize hEq:upd _ m4 _=A6; refine newC hEq g_m4 ?_; clear hEq; intro X e_m4 o_m4)
   clear o_m4
   have n_m4:=sr.ne g_m4
   have f_m4:=none_back KS (rem_none (p:=p) g_m4)
   replace sr:=sr.same X
   have Y:=rem_mono (S:=p) X
   have r_m4:rem A6 p m4=some _:=(rem_ne n_m4).trans e_m4
   replace r_u1:=Y _ _ r_u1
   replace r_e2:=Y _ _ r_e2
   replace r_c3:=Y _ _ r_c3
   replace KS:=KS.trans Y
   replace its:=fun y h=>(BadS.same (its y h) Y)
   clear X g_m4 n_m4 e_m4 Y
   have m4l:(List.replicate (4:Int).toNat xs).flatten.length=4 * xs.length:=len_rep xs 4
   have m4m:∀y∈(List.replicate (4:Int).toNat xs).flatten,y∈xs:=fun y hy=>by obtain ⟨l,h1,h2⟩:=List.mem_flatten.mp hy; rw [(List.mem_replicate.mp h1).2] at h2; exact h2
   generalize (List.replicate (4:Int).toNat xs).flatten=m4s at r_m4 m4l m4m
   refine ⟨_,rfl,m4,_,rfl,SqL.of (rem_same _ _ r_m4),?_⟩
   (intro c4 g_c4; generalize hEq:upd _ c4 _=A7; refine newC hEq g_c4 ?_; clear hEq; intro X e_c4 o_c4)
   clear o_c4
   have n_c4:=sr.ne g_c4
   have f_c4:=none_back KS (rem_none (p:=p) g_c4)
   replace sr:=sr.same X
   have Y:=rem_mono (S:=p) X
   have r_c4:rem A7 p c4=some _:=(rem_ne n_c4).trans e_c4
   replace r_u1:=Y _ _ r_u1
   replace r_e2:=Y _ _ r_e2
   replace r_c3:=Y _ _ r_c3
   replace r_m4:=Y _ _ r_m4
   replace KS:=KS.trans Y
   replace its:=fun y h=>(BadS.same (its y h) Y)
   clear X g_c4 n_c4 e_c4 Y
   rw [show cutV m4s none (some 7)=m4s.take 7 from cut_to m4s 7] at r_c4
   replace itf:=all_snoc itf (y:=V.ref c4) (fr_ref f_c4)
   replace its:=all_snoc its (y:=V.ref c4) (badS_len r_c4 (fun y hy=>(thr0 y (m4m y (List.mem_of_mem_take hy))).kp (Kp.same KS)) (.inr (by rw [List.length_take]; omega)))
   clear r_u1
   clear r_e2
   clear r_c3
   clear r_m4
   clear r_c4
   refine ⟨_,rfl,S,p,7,xs,cs,rfl,sr,KS _ _ hS,rw_.kp (Kp.same KS),c2,c6,by decide,by decide,fun L5 A8 g_L5 X e_L5 b_L5=>?_⟩
   have f_L5:=none_back KS (rem_none (p:=p) g_L5)
   clear g_L5
   replace sr:=sr.same X
   have Y:=rem_mono (S:=p) X
   replace KS:=KS.trans Y
   replace its:=fun y h=>BadS.same (its y h) Y
   clear X Y
   replace itf:=all_snoc itf (y:=V.ref L5) (fr_ref f_L5)
   replace its:=all_snoc its (y:=V.ref L5) (b_L5)
   replace itf:=all_snoc itf (y:=V.int 5) (nofun)
   replace its:=all_snoc its (y:=V.int 5) (badS_no (.int _) (nolist_flat rfl))
   (intro d7 g_d7; generalize hEq:upd _ d7 _=A9; refine newC hEq g_d7 ?_; clear hEq; intro X e_d7 o_d7)
   clear o_d7
   have n_d7:=sr.ne g_d7
   have f_d7:=none_back KS (rem_none (p:=p) g_d7)
   replace sr:=sr.same X
   have Y:=rem_mono (S:=p) X
   have r_d7:rem A9 p d7=some _:=(rem_ne n_d7).trans e_d7
   replace KS:=KS.trans Y
   replace its:=fun y h=>(BadS.same (its y h) Y)
   clear X g_d7 n_d7 e_d7 Y
   replace itf:=all_snoc itf (y:=V.ref d7) (fr_ref f_d7)
   replace its:=all_snoc its (y:=V.ref d7) (badS_no (.dK r_d7) (nolist_dct r_d7))
   clear r_d7
   replace itf:=all_snoc itf (y:=V.str "ab") (nofun)
   replace its:=all_snoc its (y:=V.str "ab") (badS_no (.str _) (nolist_flat rfl))
   refine ⟨sz (show 9≤100 by decide),?_⟩
   (intro L8 g_L8; generalize hEq:upd _ L8 _=A10; refine newC hEq g_L8 ?_; clear hEq; intro X e_L8 o_L8)
   clear o_L8
   have n_L8:=sr.ne g_L8
   have f_L8:=none_back KS (rem_none (p:=p) g_L8)
   replace sr:=sr.same X
   have Y:=rem_mono (S:=p) X
   have r_L8:rem A10 p L8=some _:=(rem_ne n_L8).trans e_L8
   replace KS:=KS.trans Y
   replace its:=fun y h=>(BadS.same (its y h) Y)
   clear X g_L8 n_L8 e_L8 Y
   refine ⟨_,rfl,_,rfl,S,p,26,xs,cs,rfl,sr,KS _ _ hS,rw_.kp (Kp.same KS),c2,c6,by decide,by decide,fun L9 A11 g_L9 X e_L9 b_L9=>?_⟩
   have f_L9:=none_back KS (rem_none (p:=p) g_L9)
   clear g_L9
   replace sr:=sr.same X
   have Y:=rem_mono (S:=p) X
   replace r_L8:=Y _ _ r_L8
   replace KS:=KS.trans Y
   replace its:=fun y h=>BadS.same (its y h) Y
   clear X Y
   replace itf:=all_snoc itf (y:=V.ref L9) (fr_ref f_L9)
   replace its:=all_snoc its (y:=V.ref L9) (b_L9)
   refine ⟨s1,?_⟩
   (intro q9 g_q9; generalize hEq:upd _ q9 _=A12; refine newC hEq g_q9 ?_; clear hEq; intro X e_q9 o_q9)
   clear o_q9
   have n_q9:=sr.ne g_q9
   have f_q9:=none_back KS (rem_none (p:=p) g_q9)
   replace sr:=sr.same X
   have Y:=rem_mono (S:=p) X
   have r_q9:rem A12 p q9=some _:=(rem_ne n_q9).trans e_q9
   replace r_L8:=Y _ _ r_L8
   replace KS:=KS.trans Y
   replace its:=fun y h=>(BadS.same (its y h) Y)
   clear X g_q9 n_q9 e_q9 Y
   refine ⟨L8,q9,_,_,rfl,rfl,rem_same _ _ r_L8,rem_same _ _ r_q9,sz (show 9 + 1≤100 by decide),?_⟩
   (intro L10 g_L10; generalize hEq:upd _ L10 _=A13; refine newC hEq g_L10 ?_; clear hEq; intro X e_L10 o_L10)
   clear o_L10
   have n_L10:=sr.ne g_L10
   have f_L10:=none_back KS (rem_none (p:=p) g_L10)
   replace sr:=sr.same X
   have Y:=rem_mono (S:=p) X
   have r_L10:rem A13 p L10=some _:=(rem_ne n_L10).trans e_L10
   replace r_L8:=Y _ _ r_L8
   replace r_q9:=Y _ _ r_q9
   replace KS:=KS.trans Y
   replace its:=fun y h=>(BadS.same (its y h) Y)
   clear X g_L10 n_L10 e_L10 Y
   have itf:∀y∈([V.non,V.ref u1,V.ref e2,V.ref c3,V.ref c4,V.ref L5,V.int 5,V.ref d7,V.str "ab"] ++ [V.ref L9]),Fr H p y:=itf
   generalize hys:([V.non,V.ref u1,V.ref e2,V.ref c3,V.ref c4,V.ref L5,V.int 5,V.ref d7,V.str "ab"] ++ [V.ref L9])=ys at r_L10 itf
   have yl:ys.length=10:=by rw [← hys]; rfl
   have its:∀y∈ys,BadS (rem A13 p) y:=by rw [← hys]; exact its
   have ey:ys[wy]? = some (ys[wy]'(by omega)):=List.getElem?_eq_getElem _
   generalize ys[wy]'(by omega)=yy at ey
   exact ⟨_,rfl,L10,_,_,_,rfl,rfl,SqL.of (rem_same _ _ r_L10),atI_nat ey,q _ _ sr KS (itf _ (List.mem_of_getElem? ey)) (its _ (List.mem_of_getElem? ey))⟩
  ·have ge:10≤wy:=by
    have:¬((wy:Int) < 10):=fun z=>ge (decide_eq_true z)
    omega
   have KS:Same (rem H p) (rem H2 p):=by rw [R2]; exact Same.refl _
   have its:∀y∈([]:List V),BR (rem H2 p) cs j y:=nofun
   have sr:=sr2
   refine seq_cut fun NX kx=>?_
   refine kx [some (.ref S),some (.ref p),some (.int i),some (.int j),some (.str (sg1 cc)),some (p0),some (l0),some (.int wy),none,none,none,none,none] _ ?_
   clear kx NX
   refine seq_cut fun NX kx=>?_
   replace its:=all_snoc its (y:=V.non) (br_no (thr_flat rfl) nofun)
   refine ⟨_,rfl,_,rfl,_,rfl,s3,?_⟩
   (intro b1 g_b1; generalize hEq:upd _ b1 _=A101; refine newC hEq g_b1 ?_; clear hEq; intro X e_b1 o_b1)
   clear o_b1
   have n_b1:=sr.ne g_b1
   have f_b1:=none_back KS (rem_none (p:=p) g_b1)
   replace sr:=sr.same X
   have Y:=rem_mono (S:=p) X
   have r_b1:rem A101 p b1=some _:=(rem_ne n_b1).trans e_b1
   replace KS:=KS.trans Y
   replace its:=fun y h=>(BR.same (its y h) Y)
   clear X g_b1 n_b1 e_b1 Y
   replace its:=all_snoc its (y:=V.ref b1) (br_no (thr_lst r_b1) (fun a x p l e=>by cases e; rw [r_b1]; nofun))
   refine ⟨_,rfl,_,rfl,s2,?_⟩
   (intro b2 g_b2; generalize hEq:upd _ b2 _=A102; refine newC hEq g_b2 ?_; clear hEq; intro X e_b2 o_b2)
   clear o_b2
   have n_b2:=sr.ne g_b2
   have f_b2:=none_back KS (rem_none (p:=p) g_b2)
   replace sr:=sr.same X
   have Y:=rem_mono (S:=p) X
   have r_b2:rem A102 p b2=some _:=(rem_ne n_b2).trans e_b2
   replace r_b1:=Y _ _ r_b1
   replace KS:=KS.trans Y
   replace its:=fun y h=>(BR.same (its y h) Y)
   clear X g_b2 n_b2 e_b2 Y
   replace its:=all_snoc its (y:=V.ref b2) (br_no (thr_tup r_b2 (fun z hz=>(List.mem_cons.mp hz).elim (fun e=>e ▸ sgl) (fun h=>by rw [List.mem_singleton.mp h]; exact prT.kp (Kp.same KS)))) (fun a x p l e=>by cases e; rw [r_b2]; intro z; cases z))
   refine ⟨_,rfl,_,rfl,_,rfl,_,rfl,s4,?_⟩
   (intro b3 g_b3; generalize hEq:upd _ b3 _=A103; refine newC hEq g_b3 ?_; clear hEq; intro X e_b3 o_b3)
   clear o_b3
   have n_b3:=sr.ne g_b3
   have f_b3:=none_back KS (rem_none (p:=p) g_b3)
   replace sr:=sr.same X
   have Y:=rem_mono (S:=p) X
   have r_b3:rem A103 p b3=some _:=(rem_ne n_b3).trans e_b3
   replace r_b1:=Y _ _ r_b1
   replace r_b2:=Y _ _ r_b2
   replace KS:=KS.trans Y
   replace its:=fun y h=>(BR.same (its y h) Y)
   clear X g_b3 n_b3 e_b3 Y
   replace its:=all_snoc its (y:=V.ref b3) (br_no (thr_tup r_b3 (fun z hz=>(List.mem_cons.mp hz).elim (fun e=>e ▸ sgl) (fun h=>(List.mem_cons.mp h).elim (fun e=>e ▸ prT.kp (Kp.same KS)) (fun h=>(List.mem_cons.mp h).elim (fun e=>e ▸ lT.kp (Kp.same KS)) (fun h=>by rw [List.mem_singleton.mp h]; exact lT.kp (Kp.same KS)))))) (fun a x p l e=>by cases e; rw [r_b3]; intro z; cases z))
   refine ⟨_,rfl,?_⟩
   replace its:=all_snoc its (y:=V.str (sg1 cc)) (br_no (thr_flat rfl) nofun)
   refine ⟨_,rfl,_,rfl,S,_,_,_,rfl,rfl,SqL.of (rem_same _ _ (KS _ _ hS)),atI_nat ej,aj,_,_,_,rfl,rfl,SqT.of (rem_same _ _ (KS _ _ haj)),rfl,_,rfl,_,rfl,s3,?_⟩
   (intro b5 g_b5; generalize hEq:upd _ b5 _=A104; refine newC hEq g_b5 ?_; clear hEq; intro X e_b5 o_b5)
   clear o_b5
   have n_b5:=sr.ne g_b5
   have f_b5:=none_back KS (rem_none (p:=p) g_b5)
   replace sr:=sr.same X
   have Y:=rem_mono (S:=p) X
   have r_b5:rem A104 p b5=some _:=(rem_ne n_b5).trans e_b5
   replace r_b1:=Y _ _ r_b1
   replace r_b2:=Y _ _ r_b2
   replace r_b3:=Y _ _ r_b3
   replace KS:=KS.trans Y
   replace its:=fun y h=>(BR.same (its y h) Y)
   clear X g_b5 n_b5 e_b5 Y
   replace its:=all_snoc its (y:=V.ref b5) (br_dup r_b5 hcj (prT.kp (Kp.same KS)) (lT.kp (Kp.same KS)))
   clear r_b1
   clear r_b2
   clear r_b3
   clear r_b5
   refine ⟨sz (show 6≤100 by decide),?_⟩
   (intro L1 g_L1; generalize hEq:upd _ L1 _=A105; refine newC hEq g_L1 ?_; clear hEq; intro X e_L1 o_L1)
   clear o_L1
   have n_L1:=sr.ne g_L1
   have f_L1:=none_back KS (rem_none (p:=p) g_L1)
   replace sr:=sr.same X
   have Y:=rem_mono (S:=p) X
   have r_L1:rem A105 p L1=some _:=(rem_ne n_L1).trans e_L1
   replace KS:=KS.trans Y
   replace its:=fun y h=>(BR.same (its y h) Y)
   clear X g_L1 n_L1 e_L1 Y
   refine kx [some (.ref S),some (.ref p),some (.int i),some (.int j),some (.str (sg1 cc)),some (p0),some (l0),some (.int wy),none,some (.ref L1),none,none,none] _ ?_
   clear kx NX
   refine seq_cut fun NX kx=>?_
   refine kx [some (.ref S),some (.ref p),some (.int i),some (.int j),some (.str (sg1 cc)),some (p0),some (l0),some (.int wy),none,some (.ref L1),some (.str " !\"#$&'()*+,-./0123456789:;<=>?@ABCDEFGHIJKLMNOPQRSTUVWXYZ[\\]^_`{|}~\n\t"),none,none] _ ?_
   clear kx NX
   refine seq_cut fun NX kx=>?_
   refine ⟨_,rfl,_,rfl,_,rfl,_,rfl,by decide,p,_,rfl,sr,by decide +kernel,sm2001 _ (by decide +kernel),fun d3 A106 d30 d3m sr3 o3=>?_⟩
   obtain ⟨ff,rfl⟩:=Int.eq_ofNat_of_zero_le d30
   have Y:=rem_eqS o3
   replace r_L1:=Y _ _ r_L1
   replace KS:=KS.trans Y
   replace its:=fun y h=>BR.same (its y h) Y
   replace sr:=sr3
   clear o3 Y
   have d3m:ff < (" !\"#$&'()*+,-./0123456789:;<=>?@ABCDEFGHIJKLMNOPQRSTUVWXYZ[\\]^_`{|}~\n\t" : Str).cps.toList.length:=by have z:(" !\"#$&'()*+,-./0123456789:;<=>?@ABCDEFGHIJKLMNOPQRSTUVWXYZ[\\]^_`{|}~\n\t" : Str).length=(" !\"#$&'()*+,-./0123456789:;<=>?@ABCDEFGHIJKLMNOPQRSTUVWXYZ[\\]^_`{|}~\n\t" : Str).cps.toList.length:=rfl; omega
   have efc:(" !\"#$&'()*+,-./0123456789:;<=>?@ABCDEFGHIJKLMNOPQRSTUVWXYZ[\\]^_`{|}~\n\t" : Str).cps.toList[ff]? = some ((" !\"#$&'()*+,-./0123456789:;<=>?@ABCDEFGHIJKLMNOPQRSTUVWXYZ[\\]^_`{|}~\n\t" : Str).cps.toList[ff]'d3m):=List.getElem?_eq_getElem _
   generalize (" !\"#$&'()*+,-./0123456789:;<=>?@ABCDEFGHIJKLMNOPQRSTUVWXYZ[\\]^_`{|}~\n\t" : Str).cps.toList[ff]'d3m=fc at efc
   have ofc:occ fc=false:=odd_occ fc (List.mem_of_getElem? efc)
   refine ⟨_,_,fc,rfl,rfl,by decide,atI_nat efc,?_⟩
   refine kx [some (.ref S),some (.ref p),some (.int i),some (.int j),some (.str (sg1 cc)),some (p0),some (l0),some (.int wy),none,some (.ref L1),some (.str " !\"#$&'()*+,-./0123456789:;<=>?@ABCDEFGHIJKLMNOPQRSTUVWXYZ[\\]^_`{|}~\n\t"),some (.str ⟨#[fc]⟩),none] _ ?_
   clear kx NX
   refine seq_cut fun NX kx=>?_
   have l1l:([V.non,V.ref b1,V.ref b2,V.ref b3,V.str (sg1 cc),V.ref b5]:List V).length=6:=rfl
   have its:∀y∈([V.non,V.ref b1,V.ref b2,V.ref b3,V.str (sg1 cc),V.ref b5]:List V),BR (rem A106 p) cs j y:=its
   generalize ([V.non,V.ref b1,V.ref b2,V.ref b3,V.str (sg1 cc),V.ref b5]:List V)=l1 at its l1l r_L1
   have itb:∀y∈([]:List V),NL (rem A106 p) y:=nofun
   replace itb:=all_snoc itb (y:=V.str "") (nl_str (by decide) (.inl (by decide)))
   refine ⟨_,rfl,_,rfl,sg1 cc,sg1 cc,rfl,rfl,two_le,?_⟩
   replace itb:=all_snoc itb (y:=V.str (sg1 cc ++ sg1 cc)) (nl_two)
   refine ⟨_,rfl,?_⟩
   replace itb:=all_snoc itb (y:=V.str ⟨#[fc]⟩) (nl_far ofc)
   replace itb:=all_snoc itb (y:=V.str "1") (nl_far (by decide +kernel))
   replace itb:=all_snoc itb (y:=V.str " ") (nl_far (by decide +kernel))
   replace itb:=all_snoc itb (y:=V.int 5) (nl_flat rfl nofun nofun)
   replace itb:=all_snoc itb (y:=V.non) (nl_flat rfl nofun nofun)
   refine ⟨_,rfl,s1,?_⟩
   (intro c7 g_c7; generalize hEq:upd _ c7 _=A107; refine newC hEq g_c7 ?_; clear hEq; intro X e_c7 o_c7)
   clear o_c7
   have n_c7:=sr.ne g_c7
   have f_c7:=none_back KS (rem_none (p:=p) g_c7)
   replace sr:=sr.same X
   have Y:=rem_mono (S:=p) X
   have r_c7:rem A107 p c7=some _:=(rem_ne n_c7).trans e_c7
   replace r_L1:=Y _ _ r_L1
   replace KS:=KS.trans Y
   replace its:=fun y h=>(BR.same (its y h) Y)
   clear X g_c7 n_c7 e_c7
   replace itb:=fun y h=>(NL.same (itb y h) Y)
   clear Y
   replace itb:=all_snoc itb (y:=V.ref c7) (⟨thd_lst r_c7,nofun⟩)
   refine ⟨_,rfl,s1,?_⟩
   (intro c8 g_c8; generalize hEq:upd _ c8 _=A108; refine newC hEq g_c8 ?_; clear hEq; intro X e_c8 o_c8)
   clear o_c8
   have n_c8:=sr.ne g_c8
   have f_c8:=none_back KS (rem_none (p:=p) g_c8)
   replace sr:=sr.same X
   have Y:=rem_mono (S:=p) X
   have r_c8:rem A108 p c8=some _:=(rem_ne n_c8).trans e_c8
   replace r_L1:=Y _ _ r_L1
   replace r_c7:=Y _ _ r_c7
   replace KS:=KS.trans Y
   replace its:=fun y h=>(BR.same (its y h) Y)
   clear X g_c8 n_c8 e_c8
   replace itb:=fun y h=>(NL.same (itb y h) Y)
   clear Y
   replace itb:=all_snoc itb (y:=V.ref c8) (⟨thd_tup r_c8 (th_flats rfl) nofun,nofun⟩)
   clear r_c7
   clear r_c8
   replace itb:=all_snoc itb (y:=V.str "ab") (nl_str (by decide) (.inl (by decide)))
   replace itb:=all_snoc itb (y:=V.str "xyz") (nl_str (by decide) (.inl (by decide)))
   refine ⟨sz (show 11≤100 by decide),?_⟩
   (intro B2 g_B2; generalize hEq:upd _ B2 _=A109; refine newC hEq g_B2 ?_; clear hEq; intro X e_B2 o_B2)
   clear o_B2
   have n_B2:=sr.ne g_B2
   have f_B2:=none_back KS (rem_none (p:=p) g_B2)
   replace sr:=sr.same X
   have Y:=rem_mono (S:=p) X
   have r_B2:rem A109 p B2=some _:=(rem_ne n_B2).trans e_B2
   replace r_L1:=Y _ _ r_L1
   replace KS:=KS.trans Y
   replace its:=fun y h=>(BR.same (its y h) Y)
   clear X g_B2 n_B2 e_B2
   replace itb:=fun y h=>(NL.same (itb y h) Y)
   clear Y
   refine kx [some (.ref S),some (.ref p),some (.int i),some (.int j),some (.str (sg1 cc)),some (p0),some (l0),some (.int wy),none,some (.ref L1),some (.str " !\"#$&'()*+,-./0123456789:;<=>?@ABCDEFGHIJKLMNOPQRSTUVWXYZ[\\]^_`{|}~\n\t"),some (.str ⟨#[fc]⟩),some (.ref B2)] _ ?_
   clear kx NX
   refine seq_cut fun NX kx=>?_
   refine ⟨_,rfl,_,rfl,B2,rfl,⟨_,SqL.of (rem_same _ _ r_B2)⟩,?_⟩
   (intro M2 g_M2; generalize hEq:upd _ M2 _=A110; refine newC hEq g_M2 ?_; clear hEq; intro X e_M2 o_M2)
   clear o_M2
   have n_M2:=sr.ne g_M2
   refine lr_rows (K:=K) (Bd:=B2) (M:=M2) (p:=p) (f:=fun x=>[x,p0,l0]) (R:=fun H y=>BR H cs j y) (H0:=A109) (fun h s=>h.same s) (fun x G r hx s er=>br_let er ((itb x hx).same s) ((prT.kp (Kp.same KS)).kp (Kp.same s)) ((lT.kp (Kp.same KS)).kp (Kp.same s))) (fun x H Q h=>⟨_,rfl,_,rfl,_,rfl,s3,h⟩) g_M2 sr X e_M2 (rem_same _ _ r_B2) (show 11≤50 by decide) (fun σ2 A111 ys2 X2 f_M2 yl2 yr2=>?_)
   clear X g_M2 e_M2
   replace sr:=sr.same X2
   have Y:=rem_mono (S:=p) X2
   replace r_L1:=Y _ _ r_L1
   replace r_B2:=Y _ _ r_B2
   replace KS:=KS.trans Y
   replace its:=fun y h=>BR.same (its y h) Y
   have r_M2:rem A111 p M2=some _:=(rem_ne n_M2).trans f_M2
   clear X2 Y itb n_M2 f_M2
   have yl2:ys2.length=11:=yl2
   refine ⟨L1,M2,_,_,rfl,rfl,rem_same _ _ r_L1,rem_same _ _ r_M2,sz (show l1.length + ys2.length≤100 by omega),?_⟩
   replace its:=all_app its yr2
   clear yr2
   (intro J2 g_J2; generalize hEq:upd _ J2 _=A112; refine newC hEq g_J2 ?_; clear hEq; intro X e_J2 o_J2)
   clear o_J2
   have n_J2:=sr.ne g_J2
   have f_J2:=none_back KS (rem_none (p:=p) g_J2)
   replace sr:=sr.same X
   have Y:=rem_mono (S:=p) X
   have r_J2:rem A112 p J2=some _:=(rem_ne n_J2).trans e_J2
   replace r_L1:=Y _ _ r_L1
   replace r_B2:=Y _ _ r_B2
   replace r_M2:=Y _ _ r_M2
   replace KS:=KS.trans Y
   replace its:=fun y h=>(BR.same (its y h) Y)
   clear X g_J2 n_J2 e_J2 Y
   have l2l:(l1 ++ ys2).length=17:=by rw [List.length_append,l1l,yl2]
   generalize hl2:l1 ++ ys2=l2 at its l2l r_J2
   clear r_L1
   clear r_M2
   clear r_B2
   clear hl2 l1l yl2
   refine kx [some (.ref S),some (.ref p),some (.int i),some (.int j),some (.str (sg1 cc)),some (p0),some (l0),some (.int wy),none,some (.ref J2),some (.str " !\"#$&'()*+,-./0123456789:;<=>?@ABCDEFGHIJKLMNOPQRSTUVWXYZ[\\]^_`{|}~\n\t"),some (.str ⟨#[fc]⟩),some (.ref B2)] _ ?_
   clear kx NX
   refine seq_cut fun NX kx=>?_
   have itb:∀y∈([]:List V),NP (rem A112 p) y:=nofun
   refine ⟨s2,?_⟩
   (intro f1 g_f1; generalize hEq:upd _ f1 _=A113; refine newC hEq g_f1 ?_; clear hEq; intro X e_f1 o_f1)
   clear o_f1
   have n_f1:=sr.ne g_f1
   have f_f1:=none_back KS (rem_none (p:=p) g_f1)
   replace sr:=sr.same X
   have Y:=rem_mono (S:=p) X
   have r_f1:rem A113 p f1=some _:=(rem_ne n_f1).trans e_f1
   replace r_J2:=Y _ _ r_J2
   replace KS:=KS.trans Y
   replace its:=fun y h=>(BR.same (its y h) Y)
   clear X g_f1 n_f1 e_f1
   replace itb:=fun y h=>(NP.same (itb y h) Y)
   clear Y
   replace itb:=all_snoc itb (y:=V.ref f1) (np_frac r_f1 (by decide +kernel) (by decide))
   clear r_f1
   refine ⟨_,rfl,s2,?_⟩
   (intro f2 g_f2; generalize hEq:upd _ f2 _=A114; refine newC hEq g_f2 ?_; clear hEq; intro X e_f2 o_f2)
   clear o_f2
   have n_f2:=sr.ne g_f2
   have f_f2:=none_back KS (rem_none (p:=p) g_f2)
   replace sr:=sr.same X
   have Y:=rem_mono (S:=p) X
   have r_f2:rem A114 p f2=some _:=(rem_ne n_f2).trans e_f2
   replace r_J2:=Y _ _ r_J2
   replace KS:=KS.trans Y
   replace its:=fun y h=>(BR.same (its y h) Y)
   clear X g_f2 n_f2 e_f2
   replace itb:=fun y h=>(NP.same (itb y h) Y)
   clear Y
   replace itb:=all_snoc itb (y:=V.ref f2) (np_frac r_f2 (by decide +kernel) (by decide))
   clear r_f2
   refine ⟨s2,?_⟩
   (intro f3 g_f3; generalize hEq:upd _ f3 _=A115; refine newC hEq g_f3 ?_; clear hEq; intro X e_f3 o_f3)
   clear o_f3
   have n_f3:=sr.ne g_f3
   have f_f3:=none_back KS (rem_none (p:=p) g_f3)
   replace sr:=sr.same X
   have Y:=rem_mono (S:=p) X
   have r_f3:rem A115 p f3=some _:=(rem_ne n_f3).trans e_f3
   replace r_J2:=Y _ _ r_J2
   replace KS:=KS.trans Y
   replace its:=fun y h=>(BR.same (its y h) Y)
   clear X g_f3 n_f3 e_f3
   replace itb:=fun y h=>(NP.same (itb y h) Y)
   clear Y
   replace itb:=all_snoc itb (y:=V.ref f3) (np_frac r_f3 (by decide +kernel) (by decide))
   clear r_f3
   refine ⟨s2,?_⟩
   (intro f4 g_f4; generalize hEq:upd _ f4 _=A116; refine newC hEq g_f4 ?_; clear hEq; intro X e_f4 o_f4)
   clear o_f4
   have n_f4:=sr.ne g_f4
   have f_f4:=none_back KS (rem_none (p:=p) g_f4)
   replace sr:=sr.same X
   have Y:=rem_mono (S:=p) X
   have r_f4:rem A116 p f4=some _:=(rem_ne n_f4).trans e_f4
   replace r_J2:=Y _ _ r_J2
   replace KS:=KS.trans Y
   replace its:=fun y h=>(BR.same (its y h) Y)
   clear X g_f4 n_f4 e_f4
   replace itb:=fun y h=>(NP.same (itb y h) Y)
   clear Y
   replace itb:=all_snoc itb (y:=V.ref f4) (np_frac r_f4 (by decide +kernel) (by decide))
   clear r_f4
   refine ⟨_,rfl,s2,?_⟩
   (intro f5 g_f5; generalize hEq:upd _ f5 _=A117; refine newC hEq g_f5 ?_; clear hEq; intro X e_f5 o_f5)
   clear o_f5
   have n_f5:=sr.ne g_f5
   have f_f5:=none_back KS (rem_none (p:=p) g_f5)
   replace sr:=sr.same X
   have Y:=rem_mono (S:=p) X
   have r_f5:rem A117 p f5=some _:=(rem_ne n_f5).trans e_f5
   replace r_J2:=Y _ _ r_J2
   replace KS:=KS.trans Y
   replace its:=fun y h=>(BR.same (its y h) Y)
   clear X g_f5 n_f5 e_f5
   replace itb:=fun y h=>(NP.same (itb y h) Y)
   clear Y
   replace itb:=all_snoc itb (y:=V.ref f5) (np_frac r_f5 (by decide +kernel) (by decide))
   clear r_f5
   replace itb:=all_snoc itb (y:=V.int 1) (np_flat rfl nofun)
   replace itb:=all_snoc itb (y:=V.int 0) (np_flat rfl nofun)
   replace itb:=all_snoc itb (y:=V.non) (np_flat rfl nofun)
   replace itb:=all_snoc itb (y:=V.str "1") (np_flat rfl (fun z e=>by cases e; decide))
   refine ⟨s2,?_⟩
   (intro f6 g_f6; generalize hEq:upd _ f6 _=A118; refine newC hEq g_f6 ?_; clear hEq; intro X e_f6 o_f6)
   clear o_f6
   have n_f6:=sr.ne g_f6
   have f_f6:=none_back KS (rem_none (p:=p) g_f6)
   replace sr:=sr.same X
   have Y:=rem_mono (S:=p) X
   have r_f6:rem A118 p f6=some _:=(rem_ne n_f6).trans e_f6
   replace r_J2:=Y _ _ r_J2
   replace KS:=KS.trans Y
   replace its:=fun y h=>(BR.same (its y h) Y)
   clear X g_f6 n_f6 e_f6
   replace itb:=fun y h=>(NP.same (itb y h) Y)
   clear Y
   replace itb:=all_snoc itb (y:=V.ref f6) (np_lst r_f6)
   clear r_f6
   refine ⟨s1,?_⟩
   (intro f7 g_f7; generalize hEq:upd _ f7 _=A119; refine newC hEq g_f7 ?_; clear hEq; intro X e_f7 o_f7)
   clear o_f7
   have n_f7:=sr.ne g_f7
   have f_f7:=none_back KS (rem_none (p:=p) g_f7)
   replace sr:=sr.same X
   have Y:=rem_mono (S:=p) X
   have r_f7:rem A119 p f7=some _:=(rem_ne n_f7).trans e_f7
   replace r_J2:=Y _ _ r_J2
   replace KS:=KS.trans Y
   replace its:=fun y h=>(BR.same (its y h) Y)
   clear X g_f7 n_f7 e_f7
   replace itb:=fun y h=>(NP.same (itb y h) Y)
   clear Y
   replace itb:=all_snoc itb (y:=V.ref f7) (np_tup r_f7 (th_flats rfl) nofun)
   clear r_f7
   refine ⟨s2,?_⟩
   (intro f8 g_f8; generalize hEq:upd _ f8 _=A120; refine newC hEq g_f8 ?_; clear hEq; intro X e_f8 o_f8)
   clear o_f8
   have n_f8:=sr.ne g_f8
   have f_f8:=none_back KS (rem_none (p:=p) g_f8)
   replace sr:=sr.same X
   have Y:=rem_mono (S:=p) X
   have r_f8:rem A120 p f8=some _:=(rem_ne n_f8).trans e_f8
   replace r_J2:=Y _ _ r_J2
   replace KS:=KS.trans Y
   replace its:=fun y h=>(BR.same (its y h) Y)
   clear X g_f8 n_f8 e_f8
   replace itb:=fun y h=>(NP.same (itb y h) Y)
   clear Y
   replace itb:=all_snoc itb (y:=V.ref f8) (np_tup r_f8 (th_flats rfl) nofun)
   clear r_f8
   refine ⟨s2,?_⟩
   (intro f9 g_f9; generalize hEq:upd _ f9 _=A121; refine newC hEq g_f9 ?_; clear hEq; intro X e_f9 o_f9)
   clear o_f9
   have n_f9:=sr.ne g_f9
   have f_f9:=none_back KS (rem_none (p:=p) g_f9)
   replace sr:=sr.same X
   have Y:=rem_mono (S:=p) X
   have r_f9:rem A121 p f9=some _:=(rem_ne n_f9).trans e_f9
   replace r_J2:=Y _ _ r_J2
   replace KS:=KS.trans Y
   replace its:=fun y h=>(BR.same (its y h) Y)
   clear X g_f9 n_f9 e_f9
   replace itb:=fun y h=>(NP.same (itb y h) Y)
   clear Y
   replace itb:=all_snoc itb (y:=V.ref f9) (np_tup r_f9 (th_flats rfl) nofun)
   clear r_f9
   refine ⟨sz (show 13≤100 by decide),?_⟩
   (intro B3 g_B3; generalize hEq:upd _ B3 _=A122; refine newC hEq g_B3 ?_; clear hEq; intro X e_B3 o_B3)
   clear o_B3
   have n_B3:=sr.ne g_B3
   have f_B3:=none_back KS (rem_none (p:=p) g_B3)
   replace sr:=sr.same X
   have Y:=rem_mono (S:=p) X
   have r_B3:rem A122 p B3=some _:=(rem_ne n_B3).trans e_B3
   replace r_J2:=Y _ _ r_J2
   replace KS:=KS.trans Y
   replace its:=fun y h=>(BR.same (its y h) Y)
   clear X g_B3 n_B3 e_B3
   replace itb:=fun y h=>(NP.same (itb y h) Y)
   clear Y
   refine kx [some (.ref S),some (.ref p),some (.int i),some (.int j),some (.str (sg1 cc)),some (p0),some (l0),some (.int wy),none,some (.ref J2),some (.str " !\"#$&'()*+,-./0123456789:;<=>?@ABCDEFGHIJKLMNOPQRSTUVWXYZ[\\]^_`{|}~\n\t"),some (.str ⟨#[fc]⟩),some (.ref B3)] _ ?_
   clear kx NX
   refine seq_cut fun NX kx=>?_
   refine ⟨_,rfl,_,rfl,B3,rfl,⟨_,SqL.of (rem_same _ _ r_B3)⟩,?_⟩
   (intro M3 g_M3; generalize hEq:upd _ M3 _=A123; refine newC hEq g_M3 ?_; clear hEq; intro X e_M3 o_M3)
   clear o_M3
   have n_M3:=sr.ne g_M3
   refine lr_rows (K:=K) (Bd:=B3) (M:=M3) (p:=p) (f:=fun x=>[.str (sg1 cc),x,l0]) (R:=fun H y=>BR H cs j y) (H0:=A122) (fun h s=>h.same s) (fun x G r hx s er=>br_pr er sgl ((itb x hx).same s) ((lT.kp (Kp.same KS)).kp (Kp.same s))) (fun x H Q h=>⟨_,rfl,_,rfl,_,rfl,s3,h⟩) g_M3 sr X e_M3 (rem_same _ _ r_B3) (show 13≤50 by decide) (fun σ3 A124 ys3 X2 f_M3 yl3 yr3=>?_)
   clear X g_M3 e_M3
   replace sr:=sr.same X2
   have Y:=rem_mono (S:=p) X2
   replace r_J2:=Y _ _ r_J2
   replace r_B3:=Y _ _ r_B3
   replace KS:=KS.trans Y
   replace its:=fun y h=>BR.same (its y h) Y
   have r_M3:rem A124 p M3=some _:=(rem_ne n_M3).trans f_M3
   clear X2 Y itb n_M3 f_M3
   have yl3:ys3.length=13:=yl3
   refine ⟨J2,M3,_,_,rfl,rfl,rem_same _ _ r_J2,rem_same _ _ r_M3,sz (show l2.length + ys3.length≤100 by omega),?_⟩
   replace its:=all_app its yr3
   clear yr3
   (intro J3 g_J3; generalize hEq:upd _ J3 _=A125; refine newC hEq g_J3 ?_; clear hEq; intro X e_J3 o_J3)
   clear o_J3
   have n_J3:=sr.ne g_J3
   have f_J3:=none_back KS (rem_none (p:=p) g_J3)
   replace sr:=sr.same X
   have Y:=rem_mono (S:=p) X
   have r_J3:rem A125 p J3=some _:=(rem_ne n_J3).trans e_J3
   replace r_J2:=Y _ _ r_J2
   replace r_B3:=Y _ _ r_B3
   replace r_M3:=Y _ _ r_M3
   replace KS:=KS.trans Y
   replace its:=fun y h=>(BR.same (its y h) Y)
   clear X g_J3 n_J3 e_J3 Y
   have l3l:(l2 ++ ys3).length=30:=by rw [List.length_append,l2l,yl3]
   generalize hl3:l2 ++ ys3=l3 at its l3l r_J3
   clear r_J2
   clear r_M3
   clear r_B3
   clear hl3 l2l yl3
   refine kx [some (.ref S),some (.ref p),some (.int i),some (.int j),some (.str (sg1 cc)),some (p0),some (l0),some (.int wy),none,some (.ref J3),some (.str " !\"#$&'()*+,-./0123456789:;<=>?@ABCDEFGHIJKLMNOPQRSTUVWXYZ[\\]^_`{|}~\n\t"),some (.str ⟨#[fc]⟩),some (.ref B3)] _ ?_
   clear kx NX
   refine seq_cut fun NX kx=>?_
   have itb:∀y∈([]:List V),NLa (rem A125 p) y:=nofun
   refine ⟨s2,?_⟩
   (intro h1 g_h1; generalize hEq:upd _ h1 _=A126; refine newC hEq g_h1 ?_; clear hEq; intro X e_h1 o_h1)
   clear o_h1
   have n_h1:=sr.ne g_h1
   have f_h1:=none_back KS (rem_none (p:=p) g_h1)
   replace sr:=sr.same X
   have Y:=rem_mono (S:=p) X
   have r_h1:rem A126 p h1=some _:=(rem_ne n_h1).trans e_h1
   replace r_J3:=Y _ _ r_J3
   replace KS:=KS.trans Y
   replace its:=fun y h=>(BR.same (its y h) Y)
   clear X g_h1 n_h1 e_h1
   replace itb:=fun y h=>(NLa.same (itb y h) Y)
   clear Y
   replace itb:=all_snoc itb (y:=V.ref h1) (nla_of (np_frac r_h1 (by decide +kernel) (by decide)) nofun)
   clear r_h1
   refine ⟨_,rfl,s2,?_⟩
   (intro h2 g_h2; generalize hEq:upd _ h2 _=A127; refine newC hEq g_h2 ?_; clear hEq; intro X e_h2 o_h2)
   clear o_h2
   have n_h2:=sr.ne g_h2
   have f_h2:=none_back KS (rem_none (p:=p) g_h2)
   replace sr:=sr.same X
   have Y:=rem_mono (S:=p) X
   have r_h2:rem A127 p h2=some _:=(rem_ne n_h2).trans e_h2
   replace r_J3:=Y _ _ r_J3
   replace KS:=KS.trans Y
   replace its:=fun y h=>(BR.same (its y h) Y)
   clear X g_h2 n_h2 e_h2
   replace itb:=fun y h=>(NLa.same (itb y h) Y)
   clear Y
   replace itb:=all_snoc itb (y:=V.ref h2) (nla_of (np_frac r_h2 (by decide +kernel) (by decide)) nofun)
   clear r_h2
   refine ⟨s2,?_⟩
   (intro h3 g_h3; generalize hEq:upd _ h3 _=A128; refine newC hEq g_h3 ?_; clear hEq; intro X e_h3 o_h3)
   clear o_h3
   have n_h3:=sr.ne g_h3
   have f_h3:=none_back KS (rem_none (p:=p) g_h3)
   replace sr:=sr.same X
   have Y:=rem_mono (S:=p) X
   have r_h3:rem A128 p h3=some _:=(rem_ne n_h3).trans e_h3
   replace r_J3:=Y _ _ r_J3
   replace KS:=KS.trans Y
   replace its:=fun y h=>(BR.same (its y h) Y)
   clear X g_h3 n_h3 e_h3
   replace itb:=fun y h=>(NLa.same (itb y h) Y)
   clear Y
   replace itb:=all_snoc itb (y:=V.ref h3) (nla_of (np_frac r_h3 (by decide +kernel) (by decide)) nofun)
   clear r_h3
   replace itb:=all_snoc itb (y:=V.int 0) (nla_of (np_flat rfl nofun) nofun)
   replace itb:=all_snoc itb (y:=V.bl true) (nla_of (np_flat rfl nofun) nofun)
   replace itb:=all_snoc itb (y:=V.str "-") (nla_of (np_flat rfl (fun z e=>by cases e; decide)) nofun)
   refine ⟨s3,?_⟩
   (intro h4 g_h4; generalize hEq:upd _ h4 _=A129; refine newC hEq g_h4 ?_; clear hEq; intro X e_h4 o_h4)
   clear o_h4
   have n_h4:=sr.ne g_h4
   have f_h4:=none_back KS (rem_none (p:=p) g_h4)
   replace sr:=sr.same X
   have Y:=rem_mono (S:=p) X
   have r_h4:rem A129 p h4=some _:=(rem_ne n_h4).trans e_h4
   replace r_J3:=Y _ _ r_J3
   replace KS:=KS.trans Y
   replace its:=fun y h=>(BR.same (its y h) Y)
   clear X g_h4 n_h4 e_h4
   replace itb:=fun y h=>(NLa.same (itb y h) Y)
   clear Y
   replace itb:=all_snoc itb (y:=V.ref h4) (nla_of (np_tup r_h4 (th_flats rfl) nofun) nofun)
   clear r_h4
   refine ⟨s2,?_⟩
   (intro h5 g_h5; generalize hEq:upd _ h5 _=A130; refine newC hEq g_h5 ?_; clear hEq; intro X e_h5 o_h5)
   clear o_h5
   have n_h5:=sr.ne g_h5
   have f_h5:=none_back KS (rem_none (p:=p) g_h5)
   replace sr:=sr.same X
   have Y:=rem_mono (S:=p) X
   have r_h5:rem A130 p h5=some _:=(rem_ne n_h5).trans e_h5
   replace r_J3:=Y _ _ r_J3
   replace KS:=KS.trans Y
   replace its:=fun y h=>(BR.same (its y h) Y)
   clear X g_h5 n_h5 e_h5
   replace itb:=fun y h=>(NLa.same (itb y h) Y)
   clear Y
   replace itb:=all_snoc itb (y:=V.ref h5) (nla_of (np_lst r_h5) nofun)
   clear r_h5
   refine ⟨s2,?_⟩
   (intro h6 g_h6; generalize hEq:upd _ h6 _=A131; refine newC hEq g_h6 ?_; clear hEq; intro X e_h6 o_h6)
   clear o_h6
   have n_h6:=sr.ne g_h6
   have f_h6:=none_back KS (rem_none (p:=p) g_h6)
   replace sr:=sr.same X
   have Y:=rem_mono (S:=p) X
   have r_h6:rem A131 p h6=some _:=(rem_ne n_h6).trans e_h6
   replace r_J3:=Y _ _ r_J3
   replace KS:=KS.trans Y
   replace its:=fun y h=>(BR.same (its y h) Y)
   clear X g_h6 n_h6 e_h6
   replace itb:=fun y h=>(NLa.same (itb y h) Y)
   clear Y
   replace itb:=all_snoc itb (y:=V.ref h6) (nla_of (np_tup r_h6 (th_flats rfl) nofun) nofun)
   clear r_h6
   refine ⟨sz (show 9≤100 by decide),?_⟩
   (intro B4 g_B4; generalize hEq:upd _ B4 _=A132; refine newC hEq g_B4 ?_; clear hEq; intro X e_B4 o_B4)
   clear o_B4
   have n_B4:=sr.ne g_B4
   have f_B4:=none_back KS (rem_none (p:=p) g_B4)
   replace sr:=sr.same X
   have Y:=rem_mono (S:=p) X
   have r_B4:rem A132 p B4=some _:=(rem_ne n_B4).trans e_B4
   replace r_J3:=Y _ _ r_J3
   replace KS:=KS.trans Y
   replace its:=fun y h=>(BR.same (its y h) Y)
   clear X g_B4 n_B4 e_B4
   replace itb:=fun y h=>(NLa.same (itb y h) Y)
   clear Y
   refine kx [some (.ref S),some (.ref p),some (.int i),some (.int j),some (.str (sg1 cc)),some (p0),some (l0),some (.int wy),none,some (.ref J3),some (.str " !\"#$&'()*+,-./0123456789:;<=>?@ABCDEFGHIJKLMNOPQRSTUVWXYZ[\\]^_`{|}~\n\t"),some (.str ⟨#[fc]⟩),some (.ref B4)] _ ?_
   clear kx NX
   refine seq_cut fun NX kx=>?_
   refine ⟨_,rfl,_,rfl,B4,rfl,⟨_,SqL.of (rem_same _ _ r_B4)⟩,?_⟩
   (intro M4 g_M4; generalize hEq:upd _ M4 _=A133; refine newC hEq g_M4 ?_; clear hEq; intro X e_M4 o_M4)
   clear o_M4
   have n_M4:=sr.ne g_M4
   refine lr_rows (K:=K) (Bd:=B4) (M:=M4) (p:=p) (f:=fun x=>[.str (sg1 cc),p0,x]) (R:=fun H y=>BR H cs j y) (H0:=A132) (fun h s=>h.same s) (fun x G r hx s er=>br_la er sgl ((prT.kp (Kp.same KS)).kp (Kp.same s)) ((itb x hx).same s)) (fun x H Q h=>⟨_,rfl,_,rfl,_,rfl,s3,h⟩) g_M4 sr X e_M4 (rem_same _ _ r_B4) (show 9≤50 by decide) (fun σ4 A134 ys4 X2 f_M4 yl4 yr4=>?_)
   clear X g_M4 e_M4
   replace sr:=sr.same X2
   have Y:=rem_mono (S:=p) X2
   replace r_J3:=Y _ _ r_J3
   replace r_B4:=Y _ _ r_B4
   replace KS:=KS.trans Y
   replace its:=fun y h=>BR.same (its y h) Y
   have r_M4:rem A134 p M4=some _:=(rem_ne n_M4).trans f_M4
   clear X2 Y itb n_M4 f_M4
   have yl4:ys4.length=9:=yl4
   refine ⟨J3,M4,_,_,rfl,rfl,rem_same _ _ r_J3,rem_same _ _ r_M4,sz (show l3.length + ys4.length≤100 by omega),?_⟩
   replace its:=all_app its yr4
   clear yr4
   (intro J4 g_J4; generalize hEq:upd _ J4 _=A135; refine newC hEq g_J4 ?_; clear hEq; intro X e_J4 o_J4)
   clear o_J4
   have n_J4:=sr.ne g_J4
   have f_J4:=none_back KS (rem_none (p:=p) g_J4)
   replace sr:=sr.same X
   have Y:=rem_mono (S:=p) X
   have r_J4:rem A135 p J4=some _:=(rem_ne n_J4).trans e_J4
   replace r_J3:=Y _ _ r_J3
   replace r_B4:=Y _ _ r_B4
   replace r_M4:=Y _ _ r_M4
   replace KS:=KS.trans Y
   replace its:=fun y h=>(BR.same (its y h) Y)
   clear X g_J4 n_J4 e_J4 Y
   have l4l:(l3 ++ ys4).length=39:=by rw [List.length_append,l3l,yl4]
   generalize hl4:l3 ++ ys4=l4 at its l4l r_J4
   clear r_J3
   clear r_M4
   clear r_B4
   clear hl4 l3l yl4
   refine kx [some (.ref S),some (.ref p),some (.int i),some (.int j),some (.str (sg1 cc)),some (p0),some (l0),some (.int wy),none,some (.ref J4),some (.str " !\"#$&'()*+,-./0123456789:;<=>?@ABCDEFGHIJKLMNOPQRSTUVWXYZ[\\]^_`{|}~\n\t"),some (.str ⟨#[fc]⟩),some (.ref B4)] _ ?_
   clear kx NX
   have ey:l4[wy - 10]? = some (l4[wy - 10]'(by omega)):=List.getElem?_eq_getElem _
   generalize l4[wy - 10]'(by omega)=yy at ey
   have aty:atI l4 ((wy:Int) - 10)=some yy:=by rw [show ((wy:Int) - 10)=((wy - 10:Nat):Int) by omega]; exact atI_nat ey
   have ity:=its _ (List.mem_of_getElem? ey)
   clear its ey
   have its:∀y∈[yy],BR (rem A135 p) cs j y:=fun y h=>by rw [List.mem_singleton.mp h]; exact ity
   refine ⟨_,rfl,_,rfl,_,rfl,S,_,rfl,SqL.of (rem_same _ _ (KS _ _ hS)),?_⟩
   (intro a1 g_a1; generalize hEq:upd _ a1 _=A136; refine newC hEq g_a1 ?_; clear hEq; intro X e_a1 o_a1)
   clear o_a1
   have n_a1:=sr.ne g_a1
   have f_a1:=none_back KS (rem_none (p:=p) g_a1)
   replace sr:=sr.same X
   have Y:=rem_mono (S:=p) X
   have r_a1:rem A136 p a1=some _:=(rem_ne n_a1).trans e_a1
   replace r_J4:=Y _ _ r_J4
   replace KS:=KS.trans Y
   replace its:=fun y h=>(BR.same (its y h) Y)
   clear X g_a1 n_a1 e_a1 Y
   rw [cut_to] at r_a1
   refine ⟨_,rfl,_,rfl,_,_,rfl,rfl,J4,_,_,_,rfl,rfl,SqL.of (rem_same _ _ r_J4),aty,s1,?_⟩
   (intro a2 g_a2; generalize hEq:upd _ a2 _=A137; refine newC hEq g_a2 ?_; clear hEq; intro X e_a2 o_a2)
   clear o_a2
   have n_a2:=sr.ne g_a2
   have f_a2:=none_back KS (rem_none (p:=p) g_a2)
   replace sr:=sr.same X
   have Y:=rem_mono (S:=p) X
   have r_a2:rem A137 p a2=some _:=(rem_ne n_a2).trans e_a2
   replace r_J4:=Y _ _ r_J4
   replace r_a1:=Y _ _ r_a1
   replace KS:=KS.trans Y
   replace its:=fun y h=>(BR.same (its y h) Y)
   clear X g_a2 n_a2 e_a2 Y
   refine ⟨a1,a2,_,_,rfl,rfl,rem_same _ _ r_a1,rem_same _ _ r_a2,sz (show (xs.take i).length + 1≤100 by rw [List.length_take]; omega),?_⟩
   (intro a3 g_a3; generalize hEq:upd _ a3 _=A138; refine newC hEq g_a3 ?_; clear hEq; intro X e_a3 o_a3)
   clear o_a3
   have n_a3:=sr.ne g_a3
   have f_a3:=none_back KS (rem_none (p:=p) g_a3)
   replace sr:=sr.same X
   have Y:=rem_mono (S:=p) X
   have r_a3:rem A138 p a3=some _:=(rem_ne n_a3).trans e_a3
   replace r_J4:=Y _ _ r_J4
   replace r_a1:=Y _ _ r_a1
   replace r_a2:=Y _ _ r_a2
   replace KS:=KS.trans Y
   replace its:=fun y h=>(BR.same (its y h) Y)
   clear X g_a3 n_a3 e_a3 Y
   refine ⟨_,rfl,_,rfl,_,_,rfl,rfl,_,rfl,S,_,rfl,SqL.of (rem_same _ _ (KS _ _ hS)),?_⟩
   (intro a4 g_a4; generalize hEq:upd _ a4 _=A139; refine newC hEq g_a4 ?_; clear hEq; intro X e_a4 o_a4)
   clear o_a4
   have n_a4:=sr.ne g_a4
   have f_a4:=none_back KS (rem_none (p:=p) g_a4)
   replace sr:=sr.same X
   have Y:=rem_mono (S:=p) X
   have r_a4:rem A139 p a4=some _:=(rem_ne n_a4).trans e_a4
   replace r_J4:=Y _ _ r_J4
   replace r_a1:=Y _ _ r_a1
   replace r_a2:=Y _ _ r_a2
   replace r_a3:=Y _ _ r_a3
   replace KS:=KS.trans Y
   replace its:=fun y h=>(BR.same (its y h) Y)
   clear X g_a4 n_a4 e_a4 Y
   rw [show cutV xs (some ((i:Int) + 1)) none=xs.drop (i + 1) from cut_from xs (i + 1)] at r_a4
   refine ⟨a3,a4,_,_,rfl,rfl,rem_same _ _ r_a3,rem_same _ _ r_a4,sz (show (xs.take i ++ [yy]).length + (xs.drop (i + 1)).length≤100 by rw [List.length_append,List.length_take,List.length_drop]; simp; omega),?_⟩
   (intro a5 g_a5; generalize hEq:upd _ a5 _=A140; refine newC hEq g_a5 ?_; clear hEq; intro X e_a5 o_a5)
   clear o_a5
   have n_a5:=sr.ne g_a5
   have f_a5:=none_back KS (rem_none (p:=p) g_a5)
   replace sr:=sr.same X
   have Y:=rem_mono (S:=p) X
   have r_a5:rem A140 p a5=some _:=(rem_ne n_a5).trans e_a5
   replace r_J4:=Y _ _ r_J4
   replace r_a1:=Y _ _ r_a1
   replace r_a2:=Y _ _ r_a2
   replace r_a3:=Y _ _ r_a3
   replace r_a4:=Y _ _ r_a4
   replace KS:=KS.trans Y
   replace its:=fun y h=>(BR.same (its y h) Y)
   clear X g_a5 n_a5 e_a5 Y
   exact q _ _ sr KS (fr_ref f_a5) (badS_row (rw_.kp (Kp.same KS)).p (fun y hy=>(thr0 y hy).kp (Kp.same KS)) (by omega) (by omega) nj (its _ (List.mem_singleton.mpr rfl)) r_a5)
end
theorem no_occ (x y:Str) (h:∀i,Builtin.Str.subAt x y i=false):Builtin.Str.occurrences x y 0 x.length 1=[]:=by
 rw [StrLaws.occ_eq]
 generalize List.range' 0 (x.length + 1 - 0)=l
 suffices H:∀(l:List Nat) (k:Nat),(forIn (m:=Id) l ((#[]:Array Nat),k) (StrLaws.occBody x y x.length 1)).run.fst = #[] by rw [H]
 intro l
 induction l with
 | nil=>intro k; rfl
 | cons i r ih=>
  intro k
  have hi:¬((((#[]:Array Nat).size < 1∧k≤i)∧i + y.length≤x.length)∧Builtin.Str.subAt x y i=true):=fun c=>by rw [h i] at c; cases c.2
  simp only [List.forIn_cons,StrLaws.occBody,if_neg hi]
  exact ih k
theorem occ_mem {c:Nat} (h:occ c=true):c∈letters.cps.toList:=by
 apply Classical.byContradiction
 intro n
 have:Builtin.Str.occurrences letters ⟨#[c]⟩ 0 letters.length 1=[]:=no_occ _ _ fun i=>by
  rw [StrLaws.subAt_eq]
  apply Bool.eq_false_iff.mpr
  intro e
  have e:=beq_iff_eq.mp e
  have:c∈((⟨#[c]⟩:Str).cps.toList):=by simp
  rw [← e] at this
  exact n (List.mem_of_mem_drop (List.mem_of_mem_take this))
 unfold occ at h
 rw [this] at h
 cases h
theorem up_all:(letters.cps.toList.all fun c=>decide (Txt.upper (sg1 c)=sg1 (c - 32)) && !occ (c - 32))=true:=by decide +kernel
theorem up_no {c:Nat} (h:occ c=true):∃d,Txt.upper (sg1 c)=sg1 d∧occ d=false:=by
 have:=List.all_eq_true.mp up_all c (occ_mem h)
 simp only [Bool.and_eq_true,decide_eq_true_eq,Bool.not_eq_true'] at this
 exact ⟨c - 32,this⟩
theorem in_sgs {cs:List Nat} {z:Str} (h:z∈sgs cs):∃c,c∈cs∧z=sg1 c:=by
 obtain ⟨c,hc,e⟩:=List.mem_map.mp h
 exact ⟨c,hc,e.symm⟩
theorem in_prs {cs:List Nat} {z:Str} (h:z∈prs (sgs cs)):∃a b,a∈cs∧b∈cs∧z=sg1 a ++ sg1 b:=by
 unfold prs at h
 obtain ⟨x,hx,h⟩:=List.mem_flatMap.mp h
 obtain ⟨y,hy,e⟩:=List.mem_map.mp h
 obtain ⟨a,ha,rfl⟩:=in_sgs hx
 obtain ⟨b,hb,rfl⟩:=in_sgs hy
 exact ⟨a,b,ha,hb,e.symm⟩
theorem sgs_no {cs:List Nat} {z:Str} (n:z.length≠1):z∉sgs cs:=fun h=>by
 obtain ⟨c,_,rfl⟩:=in_sgs h
 exact n rfl
theorem prs_no {cs:List Nat} {z:Str} (n:z.length≠2):z∉prs (sgs cs):=fun h=>by
 obtain ⟨a,b,_,_,rfl⟩:=in_prs h
 exact n rfl
theorem sgs_up {cs:List Nat} {c:Nat} (al:∀c∈cs,occ c=true) (h:occ c=true):Txt.upper (sg1 c)∉sgs cs:=fun m=>by
 obtain ⟨d,e,o⟩:=up_no h
 obtain ⟨c',hc,e'⟩:=in_sgs m
 rw [e] at e'
 rw [sg1_inj e',al c' hc] at o
 cases o
theorem prs_first {cs:List Nat} {d:Nat} {z:Str} (n:d∉cs) (e:sg1 d ++ z∈prs (sgs cs)) (l:z.length=1):False:=by
 obtain ⟨a,b,ha,hb,e⟩:=in_prs e
 have:∃c,z=sg1 c:=by
  have l:z.cps.toList.length=1:=by rw [Array.length_toList]; exact l
  match h:z.cps.toList,l with
  | [c],_=>exact ⟨c,by
    have:z.cps = #[c]:=by apply Array.toList_inj.mp; simpa using h
    cases z
    exact congrArg Str.mk this⟩
 obtain ⟨c,rfl⟩:=this
 exact n ((sg2_inj e).1 ▸ ha)
theorem prs_second {cs:List Nat} {c d:Nat} (n:d∉cs) (e:sg1 c ++ sg1 d∈prs (sgs cs)):False:=by
 obtain ⟨a,b,ha,hb,e⟩:=in_prs e
 exact n ((sg2_inj e).2 ▸ hb)
theorem badU_txt {H:Hp} {ks:List Str} {a:Addr} {xs:List Str} {z:Str} (h:H a=some (.lst (txs xs))) (m:z∈xs) (n:z∉ks):BadU H ks (.ref a):=badU_el h txs_th (List.mem_map.mpr ⟨z,m,rfl⟩) fun k hk e=>n (by injection e with e; rw [e]; exact hk)
theorem badU_one {H:Hp} {ks:List Str} {a:Addr} {x:V} (h:H a=some (.lst [x])) (t:Th H x) (n:∀z,x≠.str z):BadU H ks (.ref a):=badU_el h (fun y hy=>by rw [List.mem_singleton.mp hy]; exact t) (List.mem_cons_self ..) fun k _=>n k
theorem dup_first {ks:List Str} (h:0 < ks.length):¬(ks ++ ks.take 1).Nodup:=fun nd=>by
 match ks,h with
 | k :: ks,_=>exact (List.nodup_append.mp nd).2.2 k (List.mem_cons_self ..) k (List.mem_cons_self ..) rfl
theorem up_len {c:Nat} (h:occ c=true):(Txt.upper (sg1 c)).length≤sizeLine:=by
 obtain ⟨d,e,_⟩:=up_no h
 rw [e]; show 1≤sizeLine; decide
theorem tx_at {cs:List Nat} {i c:Nat} (h:cs[i]? = some c):(txs (sgs cs))[i]? = some (.str (sg1 c)):=by
 unfold txs sgs
 rw [List.getElem?_map,List.getElem?_map,h]; rfl
section
variable {P:Program} {w:World} {K:PySem.W.Frag} {mg:Str→Option Value} {base:Heap} {c:List Addr}
def spBadF:Sp:=fun vs H Q _=>∃(N p:Addr) (cs:List Nat),vs=[.ref N,.ref p]∧Src H p∧rem H p N=some (.lst (txs (sgs cs)))∧(∀c∈cs,occ c=true)∧2≤cs.length∧cs.length≤6∧
 ∀x H',Src H' p→Same (rem H p) (rem H' p)→Fr H p x→BadU (rem H' p) (sgs cs) x→Q x H'
theorem scBf:FnScope ["_law_names","_law_source_here","_law_sign","_law_some"] ["_law_names","_law_source_here"] (defScope sBadF):=⟨rfl,rfl,rfl,by decide +kernel,rfl,by decide +kernel,by decide +kernel⟩
theorem ok_badF {f fD fS:Addr} {fd fdD fdS:FuncData} (F:FunG K "_law_bad_firsts" "_law_bad_firsts" sBadF .none f fd) (B:Bl mg)
  (GD:FnOk P w K mg base (CXE P w) 1 fD fdD ["_law_source_here","_law_many"] spDraw) (mD:mg "_law_draw" = some (.ref fD)) (kD:PySem.W.keepIn K (.ref fD)=true) (bD:Binds K fdD ["_law_source_here","_law_many"] [])
  (GS:FnOk P w K mg base (CXE P w) 1 fS fdS ["_law_names"] spStranger) (mS:mg "_law_stranger" = some (.ref fS)) (kS:PySem.W.keepIn K (.ref fS)=true) (bS:Binds K fdS ["_law_names"] []):FnOk P w K mg base (CXE P w) 2 f fd ["_law_names","_law_source_here"] spBadF:=by
 refine F.zokN scBf (fun vs H Q E h=>?_) (fun cdv A outer s H vs Q E hr h=>?_)
 ·obtain ⟨N,p,cs,rfl,_⟩:=h
  rfl
 ·obtain ⟨N,p,cs,rfl,sr,hN,al,c2,c6,q⟩:=h
  refine ⟨_,(zpss_cons (zps_set (i:=2) scBf.nd rfl (Or.inl rfl) (zpe_ix ix_list (zpv 0) (zpe_call GD hr (by rfl) mD kD bD .nil passE0 (zpac_n (zpv 1) (zpac_f (zpe_callB call_len_seq (by rfl) B.len PySem.boot_len (zpac_n (zpv 0) zpa_nil)) zpa_nil))) (fun _ _=>rfl)))
   (zpss_cons (zps_set (i:=3) scBf.nd rfl (Or.inl rfl) (zpe_lst (zpac_c zpe_non (zpac_t (zpe_tup zpa_nil) (zpac_f (zpe_callTy call_tuple_of (by rfl) B.tuple boot_tuple (zpac_n (zpv 0) zpa_nil)) (zpac_n (zpv 2) (zpac_c zpe_str (zpac_d zpe_dict0 (zpac_c zpe_int (zpac_l (zpe_lst (zpac_c zpe_int zpa_nil)) (zpac_l (zpe_lst (zpac_c zpe_non zpa_nil)) (zpac_l (zpe_lst (zpac_c zpe_str zpa_nil)) (zpac_l (zpe_lst (zpac_b (zpe_op op_add_str (zpv 2) (zpv 2)) zpa_nil)) (zpac_l (zpe_lst (zpac_n (zpv 2) (zpac_n (zpv 2) zpa_nil))) (zpac_l (zpe_lst (zpac_l (zpe_lst (zpac_n (zpv 2) zpa_nil)) zpa_nil)) zpa_nil)))))))))))))))
   (zpss_cons (zps_set (i:=3) scBf.nd rfl (Or.inl rfl) (zpe_op op_cat (zpv 3) (zpe_lst (zpac_l (zpe_lst (zpac_f (zpe_call GS hr (by rfl) mS kS bS .nil passE0 (zpac_n (zpv 0) zpa_nil)) zpa_nil)) (zpac_b (zpe_op op_cat (zpv 0) (zpe_lst (zpac_f (zpe_call GS hr (by rfl) mS kS bS .nil passE0 (zpac_n (zpv 0) zpa_nil)) zpa_nil))) (zpac_b (zpe_op op_cat (zpv 0) (zpe_slice sl_list (zpv 0) zpo_none (zpo_some zpe_int))) (zpac_l (zpe_lst (zpac_f (zpe_bm0 PySem.F.plainAttrs_str PySem.F.slot_str_upper PySem.F.type_str_upper mt_upper (zpv 2)) zpa_nil)) (zpac_l (zpe_lst (zpac_t (zpe_tup (zpac_n (zpv 2) zpa_nil)) zpa_nil)) zpa_nil))))))))
   (zpss_one (zps_ret (zpe_ix ix_list (zpe_op op_cat (zpv 3) (zpe_lst (zpac_l (zpe_lst (zpac_b (zpe_op op_add_str (zpe_ix ix_list (zpv 0) zpe_int (fun _ _=>rfl)) (zpe_ix ix_list (zpv 0) zpe_int (fun _ _=>rfl))) zpa_nil)) zpa_nil))) (zpe_call GD hr (by rfl) mD kD bD .nil passE0 (zpac_n (zpv 1) (zpac_c zpe_int zpa_nil))) (fun _ _=>rfl))))))),?_⟩
  have sz:∀{m:Nat},m≤100→m≤sizeLine:=fun h=>Nat.le_trans h (by decide)
  have s1:1≤sizeLine:=sz (show 1≤100 by decide)
  have s2:2≤sizeLine:=sz (show 2≤100 by decide)
  obtain ⟨k0,e0⟩:∃k0,cs[0]? = some k0:=⟨_,List.getElem?_eq_getElem (by omega)⟩
  obtain ⟨k1,e1⟩:∃k1,cs[1]? = some k1:=⟨_,List.getElem?_eq_getElem (by omega)⟩
  have at0:atI (txs (sgs cs)) 0=some (.str (sg1 k0)):=atI_nat (j:=0) (tx_at e0)
  have at1:atI (txs (sgs cs)) 1=some (.str (sg1 k1)):=atI_nat (j:=1) (tx_at e1)
  have KS:Same (rem H p) (rem H p):=Same.refl _
  have B100:∀m:Nat,m≤2000→m < big:=fun m h=>sm2001 m (by omega)
  refine seq_cut fun NX kx=>?_
  refine ⟨_,rfl,_,rfl,_,rfl,N,_,rfl,.inl (SqL.of (rem_same _ _ (KS _ _ hN))),p,_,rfl,sr,(by show (0:Int) < ((txs (sgs cs)).length:Nat); rw [txs_len,sgs_len]; omega),(B100 _ (by show ((txs (sgs cs)).length:Int).natAbs≤2000; rw [txs_len,sgs_len]; omega)),fun z_i A1 z0_i zm_i sr3 o3=>?_⟩
  obtain ⟨i,rfl⟩:=Int.eq_ofNat_of_zero_le z0_i
  have h_i:i < cs.length:=by rw [txs_len,sgs_len] at zm_i; omega
  have Y:=rem_eqS o3
  replace KS:=KS.trans Y
  replace sr:=sr3
  clear o3 Y z0_i zm_i
  have ex:(txs (sgs cs))[i]? = some (.str (sg1 (cs[i]'h_i))):=by unfold txs sgs; rw [List.getElem?_map,List.getElem?_map,List.getElem?_eq_getElem h_i]; rfl
  have oc:=al _ (List.getElem_mem h_i)
  have mc:=List.getElem_mem h_i
  generalize cs[i]'h_i=c1 at ex oc mc
  refine ⟨N,_,_,_,rfl,rfl,SqL.of (rem_same _ _ (KS _ _ hN)),atI_nat ex,?_⟩
  refine kx [some (.ref N),some (.ref p),some (.str (sg1 c1)),none] _ ?_
  clear kx NX
  refine seq_cut fun NX kx=>?_
  have itf:∀y∈([]:List V),Fr H p y:=nofun
  have its:∀y∈([]:List V),BadU (rem A1 p) (sgs cs) y:=nofun
  replace itf:=all_snoc itf (y:=V.non) (nofun)
  replace its:=all_snoc its (y:=V.non) (badU_no (.non) (nolist_flat rfl))
  refine ⟨Nat.zero_le _,?_⟩
  (intro a1 g_a1; generalize hEq:upd _ a1 _=A2; refine newC hEq g_a1 ?_; clear hEq; intro X e_a1 o_a1)
  clear o_a1
  have n_a1:=sr.ne g_a1
  have f_a1:=none_back KS (rem_none (p:=p) g_a1)
  replace sr:=sr.same X
  have Y:=rem_mono (S:=p) X
  have r_a1:rem A2 p a1=some _:=(rem_ne n_a1).trans e_a1
  replace KS:=KS.trans Y
  replace its:=fun y h=>(BadU.same (its y h) Y)
  clear X g_a1 n_a1 e_a1 Y
  replace itf:=all_snoc itf (y:=V.ref a1) (fr_ref f_a1)
  replace its:=all_snoc its (y:=V.ref a1) (badU_no (.tup r_a1) (nolist_tup r_a1))
  refine ⟨_,rfl,N,_,rfl,.inl ⟨SqL.of (rem_same _ _ (KS _ _ hN)),?_⟩⟩
  (intro a2 g_a2; generalize hEq:upd _ a2 _=A3; refine newC hEq g_a2 ?_; clear hEq; intro X e_a2 o_a2)
  clear o_a2
  have n_a2:=sr.ne g_a2
  have f_a2:=none_back KS (rem_none (p:=p) g_a2)
  replace sr:=sr.same X
  have Y:=rem_mono (S:=p) X
  have r_a2:rem A3 p a2=some _:=(rem_ne n_a2).trans e_a2
  replace r_a1:=Y _ _ r_a1
  replace KS:=KS.trans Y
  replace its:=fun y h=>(BadU.same (its y h) Y)
  clear X g_a2 n_a2 e_a2 Y
  replace itf:=all_snoc itf (y:=V.ref a2) (fr_ref f_a2)
  replace its:=all_snoc its (y:=V.ref a2) (badU_no (.tup r_a2) (nolist_tup r_a2))
  refine ⟨_,rfl,?_⟩
  replace itf:=all_snoc itf (y:=V.str (sg1 c1)) (nofun)
  replace its:=all_snoc its (y:=V.str (sg1 c1)) (badU_no (.str _) (nolist_flat rfl))
  replace itf:=all_snoc itf (y:=V.str "") (nofun)
  replace its:=all_snoc its (y:=V.str "") (badU_no (.str _) (nolist_flat rfl))
  (intro a3 g_a3; generalize hEq:upd _ a3 _=A4; refine newC hEq g_a3 ?_; clear hEq; intro X e_a3 o_a3)
  clear o_a3
  have n_a3:=sr.ne g_a3
  have f_a3:=none_back KS (rem_none (p:=p) g_a3)
  replace sr:=sr.same X
  have Y:=rem_mono (S:=p) X
  have r_a3:rem A4 p a3=some _:=(rem_ne n_a3).trans e_a3
  replace r_a1:=Y _ _ r_a1
  replace r_a2:=Y _ _ r_a2
  replace KS:=KS.trans Y
  replace its:=fun y h=>(BadU.same (its y h) Y)
  clear X g_a3 n_a3 e_a3 Y
  replace itf:=all_snoc itf (y:=V.ref a3) (fr_ref f_a3)
  replace its:=all_snoc its (y:=V.ref a3) (badU_no (.dK r_a3) (nolist_dct r_a3))
  replace itf:=all_snoc itf (y:=V.int 0) (nofun)
  replace its:=all_snoc its (y:=V.int 0) (badU_no (.int _) (nolist_flat rfl))
  refine ⟨s1,?_⟩
  (intro a4 g_a4; generalize hEq:upd _ a4 _=A5; refine newC hEq g_a4 ?_; clear hEq; intro X e_a4 o_a4)
  clear o_a4
  have n_a4:=sr.ne g_a4
  have f_a4:=none_back KS (rem_none (p:=p) g_a4)
  replace sr:=sr.same X
  have Y:=rem_mono (S:=p) X
  have r_a4:rem A5 p a4=some _:=(rem_ne n_a4).trans e_a4
  replace r_a1:=Y _ _ r_a1
  replace r_a2:=Y _ _ r_a2
  replace r_a3:=Y _ _ r_a3
  replace KS:=KS.trans Y
  replace its:=fun y h=>(BadU.same (its y h) Y)
  clear X g_a4 n_a4 e_a4 Y
  replace itf:=all_snoc itf (y:=V.ref a4) (fr_ref f_a4)
  replace its:=all_snoc its (y:=V.ref a4) (badU_one r_a4 (.int _) nofun)
  refine ⟨s1,?_⟩
  (intro a5 g_a5; generalize hEq:upd _ a5 _=A6; refine newC hEq g_a5 ?_; clear hEq; intro X e_a5 o_a5)
  clear o_a5
  have n_a5:=sr.ne g_a5
  have f_a5:=none_back KS (rem_none (p:=p) g_a5)
  replace sr:=sr.same X
  have Y:=rem_mono (S:=p) X
  have r_a5:rem A6 p a5=some _:=(rem_ne n_a5).trans e_a5
  replace r_a1:=Y _ _ r_a1
  replace r_a2:=Y _ _ r_a2
  replace r_a3:=Y _ _ r_a3
  replace r_a4:=Y _ _ r_a4
  replace KS:=KS.trans Y
  replace its:=fun y h=>(BadU.same (its y h) Y)
  clear X g_a5 n_a5 e_a5 Y
  replace itf:=all_snoc itf (y:=V.ref a5) (fr_ref f_a5)
  replace its:=all_snoc its (y:=V.ref a5) (badU_one r_a5 .non nofun)
  refine ⟨s1,?_⟩
  (intro a6 g_a6; generalize hEq:upd _ a6 _=A7; refine newC hEq g_a6 ?_; clear hEq; intro X e_a6 o_a6)
  clear o_a6
  have n_a6:=sr.ne g_a6
  have f_a6:=none_back KS (rem_none (p:=p) g_a6)
  replace sr:=sr.same X
  have Y:=rem_mono (S:=p) X
  have r_a6:rem A7 p a6=some _:=(rem_ne n_a6).trans e_a6
  replace r_a1:=Y _ _ r_a1
  replace r_a2:=Y _ _ r_a2
  replace r_a3:=Y _ _ r_a3
  replace r_a4:=Y _ _ r_a4
  replace r_a5:=Y _ _ r_a5
  replace KS:=KS.trans Y
  replace its:=fun y h=>(BadU.same (its y h) Y)
  clear X g_a6 n_a6 e_a6 Y
  replace itf:=all_snoc itf (y:=V.ref a6) (fr_ref f_a6)
  replace its:=all_snoc its (y:=V.ref a6) (badU_txt (xs:=[""]) r_a6 (List.mem_cons_self ..) (sgs_no (by decide)))
  refine ⟨_,rfl,_,rfl,sg1 c1,sg1 c1,rfl,rfl,two_le,s1,?_⟩
  (intro a7 g_a7; generalize hEq:upd _ a7 _=A8; refine newC hEq g_a7 ?_; clear hEq; intro X e_a7 o_a7)
  clear o_a7
  have n_a7:=sr.ne g_a7
  have f_a7:=none_back KS (rem_none (p:=p) g_a7)
  replace sr:=sr.same X
  have Y:=rem_mono (S:=p) X
  have r_a7:rem A8 p a7=some _:=(rem_ne n_a7).trans e_a7
  replace r_a1:=Y _ _ r_a1
  replace r_a2:=Y _ _ r_a2
  replace r_a3:=Y _ _ r_a3
  replace r_a4:=Y _ _ r_a4
  replace r_a5:=Y _ _ r_a5
  replace r_a6:=Y _ _ r_a6
  replace KS:=KS.trans Y
  replace its:=fun y h=>(BadU.same (its y h) Y)
  clear X g_a7 n_a7 e_a7 Y
  replace itf:=all_snoc itf (y:=V.ref a7) (fr_ref f_a7)
  replace its:=all_snoc its (y:=V.ref a7) (badU_txt (xs:=[sg1 c1 ++ sg1 c1]) r_a7 (List.mem_cons_self ..) (sgs_no (by show ¬2=1; decide)))
  refine ⟨_,rfl,_,rfl,s2,?_⟩
  (intro a8 g_a8; generalize hEq:upd _ a8 _=A9; refine newC hEq g_a8 ?_; clear hEq; intro X e_a8 o_a8)
  clear o_a8
  have n_a8:=sr.ne g_a8
  have f_a8:=none_back KS (rem_none (p:=p) g_a8)
  replace sr:=sr.same X
  have Y:=rem_mono (S:=p) X
  have r_a8:rem A9 p a8=some _:=(rem_ne n_a8).trans e_a8
  replace r_a1:=Y _ _ r_a1
  replace r_a2:=Y _ _ r_a2
  replace r_a3:=Y _ _ r_a3
  replace r_a4:=Y _ _ r_a4
  replace r_a5:=Y _ _ r_a5
  replace r_a6:=Y _ _ r_a6
  replace r_a7:=Y _ _ r_a7
  replace KS:=KS.trans Y
  replace its:=fun y h=>(BadU.same (its y h) Y)
  clear X g_a8 n_a8 e_a8 Y
  replace itf:=all_snoc itf (y:=V.ref a8) (fr_ref f_a8)
  replace its:=all_snoc its (y:=V.ref a8) (badU_dup (ts:=[sg1 c1,sg1 c1]) r_a8 (by simp))
  refine ⟨_,rfl,s1,?_⟩
  (intro b9 g_b9; generalize hEq:upd _ b9 _=A10; refine newC hEq g_b9 ?_; clear hEq; intro X e_b9 o_b9)
  clear o_b9
  have n_b9:=sr.ne g_b9
  have f_b9:=none_back KS (rem_none (p:=p) g_b9)
  replace sr:=sr.same X
  have Y:=rem_mono (S:=p) X
  have r_b9:rem A10 p b9=some _:=(rem_ne n_b9).trans e_b9
  replace r_a1:=Y _ _ r_a1
  replace r_a2:=Y _ _ r_a2
  replace r_a3:=Y _ _ r_a3
  replace r_a4:=Y _ _ r_a4
  replace r_a5:=Y _ _ r_a5
  replace r_a6:=Y _ _ r_a6
  replace r_a7:=Y _ _ r_a7
  replace r_a8:=Y _ _ r_a8
  replace KS:=KS.trans Y
  replace its:=fun y h=>(BadU.same (its y h) Y)
  clear X g_b9 n_b9 e_b9 Y
  refine ⟨s1,?_⟩
  (intro a9 g_a9; generalize hEq:upd _ a9 _=A11; refine newC hEq g_a9 ?_; clear hEq; intro X e_a9 o_a9)
  clear o_a9
  have n_a9:=sr.ne g_a9
  have f_a9:=none_back KS (rem_none (p:=p) g_a9)
  replace sr:=sr.same X
  have Y:=rem_mono (S:=p) X
  have r_a9:rem A11 p a9=some _:=(rem_ne n_a9).trans e_a9
  replace r_a1:=Y _ _ r_a1
  replace r_a2:=Y _ _ r_a2
  replace r_a3:=Y _ _ r_a3
  replace r_a4:=Y _ _ r_a4
  replace r_a5:=Y _ _ r_a5
  replace r_a6:=Y _ _ r_a6
  replace r_a7:=Y _ _ r_a7
  replace r_a8:=Y _ _ r_a8
  replace r_b9:=Y _ _ r_b9
  replace KS:=KS.trans Y
  replace its:=fun y h=>(BadU.same (its y h) Y)
  clear X g_a9 n_a9 e_a9 Y
  replace itf:=all_snoc itf (y:=V.ref a9) (fr_ref f_a9)
  replace its:=all_snoc its (y:=V.ref a9) (badU_one r_a9 (.lst r_b9) nofun)
  clear r_a1
  clear r_a2
  clear r_a3
  clear r_a4
  clear r_a5
  clear r_a6
  clear r_a7
  clear r_a8
  clear r_a9
  clear r_b9
  refine ⟨sz (show 13≤100 by decide),?_⟩
  (intro L1 g_L1; generalize hEq:upd _ L1 _=A12; refine newC hEq g_L1 ?_; clear hEq; intro X e_L1 o_L1)
  clear o_L1
  have n_L1:=sr.ne g_L1
  have f_L1:=none_back KS (rem_none (p:=p) g_L1)
  replace sr:=sr.same X
  have Y:=rem_mono (S:=p) X
  have r_L1:rem A12 p L1=some _:=(rem_ne n_L1).trans e_L1
  replace KS:=KS.trans Y
  replace its:=fun y h=>(BadU.same (its y h) Y)
  clear X g_L1 n_L1 e_L1 Y
  refine kx [some (.ref N),some (.ref p),some (.str (sg1 c1)),some (.ref L1)] _ ?_
  clear kx NX
  refine seq_cut fun NX kx=>?_
  refine ⟨_,rfl,_,rfl,N,sgs cs,rfl,(rem_same _ _ (KS _ _ hN)),(by rw [sgs_len]; omega),fun d1 A13 oc_d1 no_d1 X=>?_⟩
  replace sr:=sr.same X
  have Y:=rem_mono (S:=p) X
  replace r_L1:=Y _ _ r_L1
  replace KS:=KS.trans Y
  replace its:=fun y h=>(BadU.same (its y h) Y)
  clear X Y
  refine ⟨s1,?_⟩
  (intro x1 g_x1; generalize hEq:upd _ x1 _=A14; refine newC hEq g_x1 ?_; clear hEq; intro X e_x1 o_x1)
  clear o_x1
  have n_x1:=sr.ne g_x1
  have f_x1:=none_back KS (rem_none (p:=p) g_x1)
  replace sr:=sr.same X
  have Y:=rem_mono (S:=p) X
  have r_x1:rem A14 p x1=some _:=(rem_ne n_x1).trans e_x1
  replace r_L1:=Y _ _ r_L1
  replace KS:=KS.trans Y
  replace its:=fun y h=>(BadU.same (its y h) Y)
  clear X g_x1 n_x1 e_x1 Y
  replace itf:=all_snoc itf (y:=V.ref x1) (fr_ref f_x1)
  replace its:=all_snoc its (y:=V.ref x1) (badU_txt (xs:=[sg1 d1]) r_x1 (List.mem_cons_self ..) no_d1)
  refine ⟨_,rfl,_,rfl,N,sgs cs,rfl,(rem_same _ _ (KS _ _ hN)),(by rw [sgs_len]; omega),fun d2 A15 oc_d2 no_d2 X=>?_⟩
  replace sr:=sr.same X
  have Y:=rem_mono (S:=p) X
  replace r_L1:=Y _ _ r_L1
  replace r_x1:=Y _ _ r_x1
  replace KS:=KS.trans Y
  replace its:=fun y h=>(BadU.same (its y h) Y)
  clear X Y
  refine ⟨s1,?_⟩
  (intro b2 g_b2; generalize hEq:upd _ b2 _=A16; refine newC hEq g_b2 ?_; clear hEq; intro X e_b2 o_b2)
  clear o_b2
  have n_b2:=sr.ne g_b2
  have f_b2:=none_back KS (rem_none (p:=p) g_b2)
  replace sr:=sr.same X
  have Y:=rem_mono (S:=p) X
  have r_b2:rem A16 p b2=some _:=(rem_ne n_b2).trans e_b2
  replace r_L1:=Y _ _ r_L1
  replace r_x1:=Y _ _ r_x1
  replace KS:=KS.trans Y
  replace its:=fun y h=>(BadU.same (its y h) Y)
  clear X g_b2 n_b2 e_b2 Y
  refine ⟨N,b2,_,_,rfl,rfl,(rem_same _ _ (KS _ _ hN)),(rem_same _ _ r_b2),sz (show (txs (sgs cs)).length + 1≤100 by rw [txs_len,sgs_len]; omega),?_⟩
  (intro x2 g_x2; generalize hEq:upd _ x2 _=A17; refine newC hEq g_x2 ?_; clear hEq; intro X e_x2 o_x2)
  clear o_x2
  have n_x2:=sr.ne g_x2
  have f_x2:=none_back KS (rem_none (p:=p) g_x2)
  replace sr:=sr.same X
  have Y:=rem_mono (S:=p) X
  have r_x2:rem A17 p x2=some _:=(rem_ne n_x2).trans e_x2
  replace r_L1:=Y _ _ r_L1
  replace r_x1:=Y _ _ r_x1
  replace r_b2:=Y _ _ r_b2
  replace KS:=KS.trans Y
  replace its:=fun y h=>(BadU.same (its y h) Y)
  clear X g_x2 n_x2 e_x2 Y
  replace itf:=all_snoc itf (y:=V.ref x2) (fr_ref f_x2)
  replace its:=all_snoc its (y:=V.ref x2) (badU_txt (xs:=sgs cs ++ [sg1 d2]) (by rw [txs_app]; exact r_x2) (List.mem_append_right _ (List.mem_cons_self ..)) no_d2)
  refine ⟨_,rfl,_,rfl,_,rfl,N,_,rfl,SqL.of (rem_same _ _ (KS _ _ hN)),?_⟩
  (intro b3 g_b3; generalize hEq:upd _ b3 _=A18; refine newC hEq g_b3 ?_; clear hEq; intro X e_b3 o_b3)
  clear o_b3
  have n_b3:=sr.ne g_b3
  have f_b3:=none_back KS (rem_none (p:=p) g_b3)
  replace sr:=sr.same X
  have Y:=rem_mono (S:=p) X
  have r_b3:rem A18 p b3=some _:=(rem_ne n_b3).trans e_b3
  replace r_L1:=Y _ _ r_L1
  replace r_x1:=Y _ _ r_x1
  replace r_b2:=Y _ _ r_b2
  replace r_x2:=Y _ _ r_x2
  replace KS:=KS.trans Y
  replace its:=fun y h=>(BadU.same (its y h) Y)
  clear X g_b3 n_b3 e_b3 Y
  rw [show cutV (txs (sgs cs)) none (some 1)=(txs (sgs cs)).take 1 from cut_to _ 1] at r_b3
  refine ⟨N,b3,_,_,rfl,rfl,(rem_same _ _ (KS _ _ hN)),(rem_same _ _ r_b3),sz (show (txs (sgs cs)).length + ((txs (sgs cs)).take 1).length≤100 by rw [List.length_take,txs_len,sgs_len]; omega),?_⟩
  (intro x3 g_x3; generalize hEq:upd _ x3 _=A19; refine newC hEq g_x3 ?_; clear hEq; intro X e_x3 o_x3)
  clear o_x3
  have n_x3:=sr.ne g_x3
  have f_x3:=none_back KS (rem_none (p:=p) g_x3)
  replace sr:=sr.same X
  have Y:=rem_mono (S:=p) X
  have r_x3:rem A19 p x3=some _:=(rem_ne n_x3).trans e_x3
  replace r_L1:=Y _ _ r_L1
  replace r_x1:=Y _ _ r_x1
  replace r_b2:=Y _ _ r_b2
  replace r_x2:=Y _ _ r_x2
  replace r_b3:=Y _ _ r_b3
  replace KS:=KS.trans Y
  replace its:=fun y h=>(BadU.same (its y h) Y)
  clear X g_x3 n_x3 e_x3 Y
  replace itf:=all_snoc itf (y:=V.ref x3) (fr_ref f_x3)
  replace its:=all_snoc its (y:=V.ref x3) (badU_dup (ts:=sgs cs ++ (sgs cs).take 1) (by rw [txs_app]; unfold txs; rw [List.map_take]; exact r_x3) (dup_first (by rw [sgs_len]; omega)))
  refine ⟨_,rfl,rfl,sg1 c1,rfl,rfl,up_len oc,s1,?_⟩
  (intro x4 g_x4; generalize hEq:upd _ x4 _=A20; refine newC hEq g_x4 ?_; clear hEq; intro X e_x4 o_x4)
  clear o_x4
  have n_x4:=sr.ne g_x4
  have f_x4:=none_back KS (rem_none (p:=p) g_x4)
  replace sr:=sr.same X
  have Y:=rem_mono (S:=p) X
  have r_x4:rem A20 p x4=some _:=(rem_ne n_x4).trans e_x4
  replace r_L1:=Y _ _ r_L1
  replace r_x1:=Y _ _ r_x1
  replace r_b2:=Y _ _ r_b2
  replace r_x2:=Y _ _ r_x2
  replace r_b3:=Y _ _ r_b3
  replace r_x3:=Y _ _ r_x3
  replace KS:=KS.trans Y
  replace its:=fun y h=>(BadU.same (its y h) Y)
  clear X g_x4 n_x4 e_x4 Y
  replace itf:=all_snoc itf (y:=V.ref x4) (fr_ref f_x4)
  replace its:=all_snoc its (y:=V.ref x4) (badU_txt (xs:=[Txt.upper (sg1 c1)]) r_x4 (List.mem_cons_self ..) (sgs_up al oc))
  refine ⟨_,rfl,s1,?_⟩
  (intro b5 g_b5; generalize hEq:upd _ b5 _=A21; refine newC hEq g_b5 ?_; clear hEq; intro X e_b5 o_b5)
  clear o_b5
  have n_b5:=sr.ne g_b5
  have f_b5:=none_back KS (rem_none (p:=p) g_b5)
  replace sr:=sr.same X
  have Y:=rem_mono (S:=p) X
  have r_b5:rem A21 p b5=some _:=(rem_ne n_b5).trans e_b5
  replace r_L1:=Y _ _ r_L1
  replace r_x1:=Y _ _ r_x1
  replace r_b2:=Y _ _ r_b2
  replace r_x2:=Y _ _ r_x2
  replace r_b3:=Y _ _ r_b3
  replace r_x3:=Y _ _ r_x3
  replace r_x4:=Y _ _ r_x4
  replace KS:=KS.trans Y
  replace its:=fun y h=>(BadU.same (its y h) Y)
  clear X g_b5 n_b5 e_b5 Y
  refine ⟨s1,?_⟩
  (intro x5 g_x5; generalize hEq:upd _ x5 _=A22; refine newC hEq g_x5 ?_; clear hEq; intro X e_x5 o_x5)
  clear o_x5
  have n_x5:=sr.ne g_x5
  have f_x5:=none_back KS (rem_none (p:=p) g_x5)
  replace sr:=sr.same X
  have Y:=rem_mono (S:=p) X
  have r_x5:rem A22 p x5=some _:=(rem_ne n_x5).trans e_x5
  replace r_L1:=Y _ _ r_L1
  replace r_x1:=Y _ _ r_x1
  replace r_b2:=Y _ _ r_b2
  replace r_x2:=Y _ _ r_x2
  replace r_b3:=Y _ _ r_b3
  replace r_x3:=Y _ _ r_x3
  replace r_x4:=Y _ _ r_x4
  replace r_b5:=Y _ _ r_b5
  replace KS:=KS.trans Y
  replace its:=fun y h=>(BadU.same (its y h) Y)
  clear X g_x5 n_x5 e_x5 Y
  replace itf:=all_snoc itf (y:=V.ref x5) (fr_ref f_x5)
  replace its:=all_snoc its (y:=V.ref x5) (badU_one r_x5 (.tup r_b5) nofun)
  clear r_x1
  clear r_x2
  clear r_x3
  clear r_x4
  clear r_x5
  clear r_b2
  clear r_b3
  clear r_b5
  refine ⟨sz (show 5≤100 by decide),?_⟩
  (intro L2 g_L2; generalize hEq:upd _ L2 _=A23; refine newC hEq g_L2 ?_; clear hEq; intro X e_L2 o_L2)
  clear o_L2
  have n_L2:=sr.ne g_L2
  have f_L2:=none_back KS (rem_none (p:=p) g_L2)
  replace sr:=sr.same X
  have Y:=rem_mono (S:=p) X
  have r_L2:rem A23 p L2=some _:=(rem_ne n_L2).trans e_L2
  replace r_L1:=Y _ _ r_L1
  replace KS:=KS.trans Y
  replace its:=fun y h=>(BadU.same (its y h) Y)
  clear X g_L2 n_L2 e_L2 Y
  refine ⟨L1,L2,_,_,rfl,rfl,(rem_same _ _ r_L1),(rem_same _ _ r_L2),sz (show 13 + 5≤100 by decide),?_⟩
  (intro L3 g_L3; generalize hEq:upd _ L3 _=A24; refine newC hEq g_L3 ?_; clear hEq; intro X e_L3 o_L3)
  clear o_L3
  have n_L3:=sr.ne g_L3
  have f_L3:=none_back KS (rem_none (p:=p) g_L3)
  replace sr:=sr.same X
  have Y:=rem_mono (S:=p) X
  have r_L3:rem A24 p L3=some _:=(rem_ne n_L3).trans e_L3
  replace r_L1:=Y _ _ r_L1
  replace r_L2:=Y _ _ r_L2
  replace KS:=KS.trans Y
  replace its:=fun y h=>(BadU.same (its y h) Y)
  clear X g_L3 n_L3 e_L3 Y
  clear r_L1
  clear r_L2
  refine kx [some (.ref N),some (.ref p),some (.str (sg1 c1)),some (.ref L3)] _ ?_
  clear kx NX
  refine ⟨_,rfl,_,rfl,N,_,_,_,rfl,rfl,SqL.of (rem_same _ _ (KS _ _ hN)),at0,_,rfl,N,_,_,_,rfl,rfl,SqL.of (rem_same _ _ (KS _ _ hN)),at1,_,_,rfl,rfl,two_le,s1,?_⟩
  (intro b6 g_b6; generalize hEq:upd _ b6 _=A25; refine newC hEq g_b6 ?_; clear hEq; intro X e_b6 o_b6)
  clear o_b6
  have n_b6:=sr.ne g_b6
  have f_b6:=none_back KS (rem_none (p:=p) g_b6)
  replace sr:=sr.same X
  have Y:=rem_mono (S:=p) X
  have r_b6:rem A25 p b6=some _:=(rem_ne n_b6).trans e_b6
  replace r_L3:=Y _ _ r_L3
  replace KS:=KS.trans Y
  replace its:=fun y h=>(BadU.same (its y h) Y)
  clear X g_b6 n_b6 e_b6 Y
  replace itf:=all_snoc itf (y:=V.ref b6) (fr_ref f_b6)
  replace its:=all_snoc its (y:=V.ref b6) (badU_txt (xs:=[sg1 k0 ++ sg1 k1]) r_b6 (List.mem_cons_self ..) (sgs_no (by show ¬2=1; decide)))
  refine ⟨s1,?_⟩
  (intro x6 g_x6; generalize hEq:upd _ x6 _=A26; refine newC hEq g_x6 ?_; clear hEq; intro X e_x6 o_x6)
  clear o_x6
  have n_x6:=sr.ne g_x6
  have f_x6:=none_back KS (rem_none (p:=p) g_x6)
  replace sr:=sr.same X
  have Y:=rem_mono (S:=p) X
  have r_x6:rem A26 p x6=some _:=(rem_ne n_x6).trans e_x6
  replace r_L3:=Y _ _ r_L3
  replace r_b6:=Y _ _ r_b6
  replace KS:=KS.trans Y
  replace its:=fun y h=>(BadU.same (its y h) Y)
  clear X g_x6 n_x6 e_x6 Y
  refine ⟨L3,x6,_,_,rfl,rfl,(rem_same _ _ r_L3),(rem_same _ _ r_x6),sz (show 18 + 1≤100 by decide),?_⟩
  (intro L4 g_L4; generalize hEq:upd _ L4 _=A27; refine newC hEq g_L4 ?_; clear hEq; intro X e_L4 o_L4)
  clear o_L4
  have n_L4:=sr.ne g_L4
  have f_L4:=none_back KS (rem_none (p:=p) g_L4)
  replace sr:=sr.same X
  have Y:=rem_mono (S:=p) X
  have r_L4:rem A27 p L4=some _:=(rem_ne n_L4).trans e_L4
  replace r_L3:=Y _ _ r_L3
  replace r_b6:=Y _ _ r_b6
  replace r_x6:=Y _ _ r_x6
  replace KS:=KS.trans Y
  replace its:=fun y h=>(BadU.same (its y h) Y)
  clear X g_L4 n_L4 e_L4 Y
  have yl:([V.non,V.ref a1,V.ref a2,V.str (sg1 c1),V.str "",V.ref a3,V.int 0,V.ref a4,V.ref a5,V.ref a6,V.ref a7,V.ref a8,V.ref a9] ++ [V.ref x1,V.ref x2,V.ref x3,V.ref x4,V.ref x5] ++ [V.ref b6]:List V).length=19:=rfl
  replace its:∀y∈([V.non,V.ref a1,V.ref a2,V.str (sg1 c1),V.str "",V.ref a3,V.int 0,V.ref a4,V.ref a5,V.ref a6,V.ref a7,V.ref a8,V.ref a9] ++ [V.ref x1,V.ref x2,V.ref x3,V.ref x4,V.ref x5] ++ [V.ref b6]:List V),BadU (rem A27 p) (sgs cs) y:=its
  replace itf:∀y∈([V.non,V.ref a1,V.ref a2,V.str (sg1 c1),V.str "",V.ref a3,V.int 0,V.ref a4,V.ref a5,V.ref a6,V.ref a7,V.ref a8,V.ref a9] ++ [V.ref x1,V.ref x2,V.ref x3,V.ref x4,V.ref x5] ++ [V.ref b6]:List V),Fr H p y:=itf
  have r_L:rem A27 p L4=some (.lst ([V.non,V.ref a1,V.ref a2,V.str (sg1 c1),V.str "",V.ref a3,V.int 0,V.ref a4,V.ref a5,V.ref a6,V.ref a7,V.ref a8,V.ref a9] ++ [V.ref x1,V.ref x2,V.ref x3,V.ref x4,V.ref x5] ++ [V.ref b6]:List V)):=r_L4
  clear r_L4
  generalize ([V.non,V.ref a1,V.ref a2,V.str (sg1 c1),V.str "",V.ref a3,V.int 0,V.ref a4,V.ref a5,V.ref a6,V.ref a7,V.ref a8,V.ref a9] ++ [V.ref x1,V.ref x2,V.ref x3,V.ref x4,V.ref x5] ++ [V.ref b6]:List V)=ys at yl its itf r_L
  refine ⟨_,rfl,p,_,rfl,sr,(by show (0:Int) < 19; decide),B100 19 (by decide),fun z_w A28 z0_w zm_w sr3 o3=>?_⟩
  obtain ⟨w,rfl⟩:=Int.eq_ofNat_of_zero_le z0_w
  have h_w:w < 19:=by omega
  have Y:=rem_eqS o3
  replace r_L3:=Y _ _ r_L3
  replace r_b6:=Y _ _ r_b6
  replace r_x6:=Y _ _ r_x6
  replace r_L:=Y _ _ r_L
  replace KS:=KS.trans Y
  replace its:=fun y h=>(BadU.same (its y h) Y)
  replace sr:=sr3
  clear o3 Y z0_w zm_w
  have ey:ys[w]? = some (ys[w]'(by omega)):=List.getElem?_eq_getElem _
  generalize ys[w]'(by omega)=yy at ey
  exact ⟨L4,_,_,_,rfl,rfl,SqL.of (rem_same _ _ r_L),atI_nat ey,q _ _ sr KS (itf _ (List.mem_of_getElem? ey)) (its _ (List.mem_of_getElem? ey))⟩
end
theorem three_le {a b c:Nat}:(sg1 a ++ sg1 b).length + (sg1 c).length≤sizeLine:=by show 3≤sizeLine; decide
section
variable {P:Program} {w:World} {K:PySem.W.Frag} {mg:Str→Option Value} {base:Heap} {c:List Addr}
def spBadP:Sp:=fun vs H Q _=>∃(N p:Addr) (cs:List Nat),vs=[.ref N,.ref p]∧Src H p∧rem H p N=some (.lst (txs (sgs cs)))∧(∀c∈cs,occ c=true)∧2≤cs.length∧cs.length≤6∧
 ∀x H',Src H' p→Same (rem H p) (rem H' p)→Fr H p x→BadU (rem H' p) (prs (sgs cs)) x→Q x H'
theorem scBp:FnScope ["_law_names","_law_source_here","_law_sign","_law_other","_law_far","_law_some","_law_one","_law_two"] ["_law_names","_law_source_here"] (defScope sBadP):=⟨rfl,rfl,rfl,by decide +kernel,rfl,by decide +kernel,by decide +kernel⟩
theorem ok_badP {f fD fS:Addr} {fd fdD fdS:FuncData} (F:FunG K "_law_bad_pairs" "_law_bad_pairs" sBadP .none f fd) (B:Bl mg)
  (GD:FnOk P w K mg base (CXE P w) 1 fD fdD ["_law_source_here","_law_many"] spDraw) (mD:mg "_law_draw" = some (.ref fD)) (kD:PySem.W.keepIn K (.ref fD)=true) (bD:Binds K fdD ["_law_source_here","_law_many"] [])
  (GS:FnOk P w K mg base (CXE P w) 1 fS fdS ["_law_names"] spStranger) (mS:mg "_law_stranger" = some (.ref fS)) (kS:PySem.W.keepIn K (.ref fS)=true) (bS:Binds K fdS ["_law_names"] []):FnOk P w K mg base (CXE P w) 2 f fd ["_law_names","_law_source_here"] spBadP:=by
 refine F.zokN scBp (fun vs H Q E h=>?_) (fun cdv A outer s H vs Q E hr h=>?_)
 ·obtain ⟨N,p,cs,rfl,_⟩:=h
  rfl
 ·obtain ⟨N,p,cs,rfl,sr,hN,al,c2,c6,q⟩:=h
  refine ⟨_,(zpss_cons (zps_set (i:=2) scBp.nd rfl (Or.inl rfl) (zpe_ix ix_list (zpv 0) (zpe_call GD hr (by rfl) mD kD bD .nil passE0 (zpac_n (zpv 1) (zpac_f (zpe_callB call_len_seq (by rfl) B.len PySem.boot_len (zpac_n (zpv 0) zpa_nil)) zpa_nil))) (fun _ _=>rfl)))
   (zpss_cons (zps_set (i:=3) scBp.nd rfl (Or.inl rfl) (zpe_ix ix_list (zpv 0) (zpe_call GD hr (by rfl) mD kD bD .nil passE0 (zpac_n (zpv 1) (zpac_f (zpe_callB call_len_seq (by rfl) B.len PySem.boot_len (zpac_n (zpv 0) zpa_nil)) zpa_nil))) (fun _ _=>rfl)))
   (zpss_cons (zps_set (i:=4) scBp.nd rfl (Or.inl rfl) (zpe_call GS hr (by rfl) mS kS bS .nil passE0 (zpac_n (zpv 0) zpa_nil)))
   (zpss_cons (zps_set (i:=5) scBp.nd rfl (Or.inl rfl) (zpe_lst (zpac_c zpe_non (zpac_t (zpe_tup zpa_nil) (zpac_t (zpe_tup (zpac_b (zpe_op op_add_str (zpv 2) (zpv 3)) zpa_nil)) (zpac_b (zpe_op op_add_str (zpv 2) (zpv 3)) (zpac_d zpe_dict0 (zpac_c zpe_int (zpac_l (zpe_lst (zpac_c zpe_int zpa_nil)) (zpac_l (zpe_lst (zpac_c zpe_non zpa_nil)) (zpac_l (zpe_lst (zpac_c zpe_str zpa_nil)) (zpac_l (zpe_lst (zpac_n (zpv 2) zpa_nil)) (zpac_l (zpe_lst (zpac_b (zpe_op op_add_str (zpe_op op_add_str (zpv 2) (zpv 3)) (zpv 2)) zpa_nil)) zpa_nil)))))))))))))
   (zpss_cons (zps_set (i:=5) scBp.nd rfl (Or.inl rfl) (zpe_op op_cat (zpv 5) (zpe_lst (zpac_l (zpe_lst (zpac_b (zpe_op op_add_str (zpv 2) (zpv 4)) zpa_nil)) (zpac_l (zpe_lst (zpac_b (zpe_op op_add_str (zpv 4) (zpv 2)) zpa_nil)) (zpac_l (zpe_lst (zpac_b (zpe_op op_add_str (zpv 2) (zpv 3)) (zpac_b (zpe_op op_add_str (zpv 2) (zpv 3)) zpa_nil))) (zpac_l (zpe_lst (zpac_t (zpe_tup (zpac_n (zpv 2) (zpac_n (zpv 3) zpa_nil))) zpa_nil)) (zpac_l (zpe_lst (zpac_l (zpe_lst (zpac_n (zpv 2) (zpac_n (zpv 3) zpa_nil))) zpa_nil)) zpa_nil))))))))
   (zpss_cons (zps_set (i:=6) scBp.nd rfl (Or.inl rfl) (zpe_op op_add_str (zpe_ix ix_list (zpv 0) zpe_int (fun _ _=>rfl)) (zpe_ix ix_list (zpv 0) zpe_int (fun _ _=>rfl))))
   (zpss_cons (zps_set (i:=7) scBp.nd rfl (Or.inl rfl) (zpe_op op_add_str (zpe_ix ix_list (zpv 0) zpe_int (fun _ _=>rfl)) (zpe_ix ix_list (zpv 0) zpe_int (fun _ _=>rfl))))
   (zpss_one (zps_ret (zpe_ix ix_list (zpe_op op_cat (zpv 5) (zpe_lst (zpac_l (zpe_lst (zpac_b (zpe_op op_add_str (zpv 2) zpe_str) zpa_nil)) (zpac_l (zpe_lst (zpac_b (zpe_op op_add_str (zpe_bm0 PySem.F.plainAttrs_str PySem.F.slot_str_upper PySem.F.type_str_upper mt_upper (zpv 2)) (zpv 3)) zpa_nil)) (zpac_l (zpe_lst (zpac_n (zpv 6) (zpac_n (zpv 7) (zpac_n (zpv 6) zpa_nil)))) zpa_nil))))) (zpe_call GD hr (by rfl) mD kD bD .nil passE0 (zpac_n (zpv 1) (zpac_c zpe_int zpa_nil))) (fun _ _=>rfl))))))))))),?_⟩
  have sz:∀{m:Nat},m≤100→m≤sizeLine:=fun h=>Nat.le_trans h (by decide)
  have s1:1≤sizeLine:=sz (show 1≤100 by decide)
  have s2:2≤sizeLine:=sz (show 2≤100 by decide)
  obtain ⟨k0,e0⟩:∃k0,cs[0]? = some k0:=⟨_,List.getElem?_eq_getElem (by omega)⟩
  obtain ⟨k1,e1⟩:∃k1,cs[1]? = some k1:=⟨_,List.getElem?_eq_getElem (by omega)⟩
  have at0:atI (txs (sgs cs)) 0=some (.str (sg1 k0)):=atI_nat (j:=0) (tx_at e0)
  have at1:atI (txs (sgs cs)) 1=some (.str (sg1 k1)):=atI_nat (j:=1) (tx_at e1)
  have KS:Same (rem H p) (rem H p):=Same.refl _
  have B100:∀m:Nat,m≤2000→m < big:=fun m h=>sm2001 m (by omega)
  refine seq_cut fun NX kx=>?_
  refine ⟨_,rfl,_,rfl,_,rfl,N,_,rfl,.inl (SqL.of (rem_same _ _ (KS _ _ hN))),p,_,rfl,sr,(by show (0:Int) < ((txs (sgs cs)).length:Nat); rw [txs_len,sgs_len]; omega),(B100 _ (by show ((txs (sgs cs)).length:Int).natAbs≤2000; rw [txs_len,sgs_len]; omega)),fun z_i A1 z0_i zm_i sr3 o3=>?_⟩
  obtain ⟨i,rfl⟩:=Int.eq_ofNat_of_zero_le z0_i
  have h_i:i < cs.length:=by rw [txs_len,sgs_len] at zm_i; omega
  have Y:=rem_eqS o3
  replace KS:=KS.trans Y
  replace sr:=sr3
  clear o3 Y z0_i zm_i
  have ex:(txs (sgs cs))[i]? = some (.str (sg1 (cs[i]'h_i))):=tx_at (List.getElem?_eq_getElem h_i)
  have oc_c1:=al _ (List.getElem_mem h_i)
  have mc_c1:=List.getElem_mem h_i
  generalize cs[i]'h_i=c1 at ex oc_c1 mc_c1
  refine ⟨N,_,_,_,rfl,rfl,SqL.of (rem_same _ _ (KS _ _ hN)),atI_nat ex,?_⟩
  clear ex
  refine kx [some (.ref N),some (.ref p),some (.str (sg1 c1)),none,none,none,none,none] _ ?_
  clear kx NX
  refine seq_cut fun NX kx=>?_
  refine ⟨_,rfl,_,rfl,_,rfl,N,_,rfl,.inl (SqL.of (rem_same _ _ (KS _ _ hN))),p,_,rfl,sr,(by show (0:Int) < ((txs (sgs cs)).length:Nat); rw [txs_len,sgs_len]; omega),(B100 _ (by show ((txs (sgs cs)).length:Int).natAbs≤2000; rw [txs_len,sgs_len]; omega)),fun z_j A2 z0_j zm_j sr3 o3=>?_⟩
  obtain ⟨j,rfl⟩:=Int.eq_ofNat_of_zero_le z0_j
  have h_j:j < cs.length:=by rw [txs_len,sgs_len] at zm_j; omega
  have Y:=rem_eqS o3
  replace KS:=KS.trans Y
  replace sr:=sr3
  clear o3 Y z0_j zm_j
  have ex:(txs (sgs cs))[j]? = some (.str (sg1 (cs[j]'h_j))):=tx_at (List.getElem?_eq_getElem h_j)
  have oc_c2:=al _ (List.getElem_mem h_j)
  have mc_c2:=List.getElem_mem h_j
  generalize cs[j]'h_j=c2 at ex oc_c2 mc_c2
  refine ⟨N,_,_,_,rfl,rfl,SqL.of (rem_same _ _ (KS _ _ hN)),atI_nat ex,?_⟩
  clear ex
  refine kx [some (.ref N),some (.ref p),some (.str (sg1 c1)),some (.str (sg1 c2)),none,none,none,none] _ ?_
  clear kx NX
  refine seq_cut fun NX kx=>?_
  refine ⟨_,rfl,N,sgs cs,rfl,(rem_same _ _ (KS _ _ hN)),(by rw [sgs_len]; omega),fun fd A3 of_ nf X=>?_⟩
  replace sr:=sr.same X
  have Y:=rem_mono (S:=p) X
  replace KS:=KS.trans Y
  clear X Y
  have nfd:fd∉cs:=fun m=>nf (List.mem_map.mpr ⟨fd,m,rfl⟩)
  refine kx [some (.ref N),some (.ref p),some (.str (sg1 c1)),some (.str (sg1 c2)),some (.str (sg1 fd)),none,none,none] _ ?_
  clear kx NX
  refine seq_cut fun NX kx=>?_
  have itf:∀y∈([]:List V),Fr H p y:=nofun
  have its:∀y∈([]:List V),BadU (rem A3 p) (prs (sgs cs)) y:=nofun
  replace itf:=all_snoc itf (y:=V.non) (nofun)
  replace its:=all_snoc its (y:=V.non) (badU_no (.non) (nolist_flat rfl))
  refine ⟨Nat.zero_le _,?_⟩
  (intro a1 g_a1; generalize hEq:upd _ a1 _=A4; refine newC hEq g_a1 ?_; clear hEq; intro X e_a1 o_a1)
  clear o_a1
  have n_a1:=sr.ne g_a1
  have f_a1:=none_back KS (rem_none (p:=p) g_a1)
  replace sr:=sr.same X
  have Y:=rem_mono (S:=p) X
  have r_a1:rem A4 p a1=some _:=(rem_ne n_a1).trans e_a1
  replace KS:=KS.trans Y
  replace its:=fun y h=>(BadU.same (its y h) Y)
  clear X g_a1 n_a1 e_a1 Y
  replace itf:=all_snoc itf (y:=V.ref a1) (fr_ref f_a1)
  replace its:=all_snoc its (y:=V.ref a1) (badU_no (.tup r_a1) (nolist_tup r_a1))
  refine ⟨_,rfl,_,rfl,sg1 c1,sg1 c2,rfl,rfl,two_le,s1,?_⟩
  (intro a2 g_a2; generalize hEq:upd _ a2 _=A5; refine newC hEq g_a2 ?_; clear hEq; intro X e_a2 o_a2)
  clear o_a2
  have n_a2:=sr.ne g_a2
  have f_a2:=none_back KS (rem_none (p:=p) g_a2)
  replace sr:=sr.same X
  have Y:=rem_mono (S:=p) X
  have r_a2:rem A5 p a2=some _:=(rem_ne n_a2).trans e_a2
  replace r_a1:=Y _ _ r_a1
  replace KS:=KS.trans Y
  replace its:=fun y h=>(BadU.same (its y h) Y)
  clear X g_a2 n_a2 e_a2 Y
  replace itf:=all_snoc itf (y:=V.ref a2) (fr_ref f_a2)
  replace its:=all_snoc its (y:=V.ref a2) (badU_no (.tup r_a2) (nolist_tup r_a2))
  refine ⟨_,rfl,_,rfl,sg1 c1,sg1 c2,rfl,rfl,two_le,?_⟩
  replace itf:=all_snoc itf (y:=V.str (sg1 c1 ++ sg1 c2)) (nofun)
  replace its:=all_snoc its (y:=V.str (sg1 c1 ++ sg1 c2)) (badU_no (.str _) (nolist_flat rfl))
  (intro a3 g_a3; generalize hEq:upd _ a3 _=A6; refine newC hEq g_a3 ?_; clear hEq; intro X e_a3 o_a3)
  clear o_a3
  have n_a3:=sr.ne g_a3
  have f_a3:=none_back KS (rem_none (p:=p) g_a3)
  replace sr:=sr.same X
  have Y:=rem_mono (S:=p) X
  have r_a3:rem A6 p a3=some _:=(rem_ne n_a3).trans e_a3
  replace r_a1:=Y _ _ r_a1
  replace r_a2:=Y _ _ r_a2
  replace KS:=KS.trans Y
  replace its:=fun y h=>(BadU.same (its y h) Y)
  clear X g_a3 n_a3 e_a3 Y
  replace itf:=all_snoc itf (y:=V.ref a3) (fr_ref f_a3)
  replace its:=all_snoc its (y:=V.ref a3) (badU_no (.dK r_a3) (nolist_dct r_a3))
  replace itf:=all_snoc itf (y:=V.int 5) (nofun)
  replace its:=all_snoc its (y:=V.int 5) (badU_no (.int _) (nolist_flat rfl))
  refine ⟨s1,?_⟩
  (intro a4 g_a4; generalize hEq:upd _ a4 _=A7; refine newC hEq g_a4 ?_; clear hEq; intro X e_a4 o_a4)
  clear o_a4
  have n_a4:=sr.ne g_a4
  have f_a4:=none_back KS (rem_none (p:=p) g_a4)
  replace sr:=sr.same X
  have Y:=rem_mono (S:=p) X
  have r_a4:rem A7 p a4=some _:=(rem_ne n_a4).trans e_a4
  replace r_a1:=Y _ _ r_a1
  replace r_a2:=Y _ _ r_a2
  replace r_a3:=Y _ _ r_a3
  replace KS:=KS.trans Y
  replace its:=fun y h=>(BadU.same (its y h) Y)
  clear X g_a4 n_a4 e_a4 Y
  replace itf:=all_snoc itf (y:=V.ref a4) (fr_ref f_a4)
  replace its:=all_snoc its (y:=V.ref a4) (badU_one r_a4 (.int _) nofun)
  refine ⟨s1,?_⟩
  (intro a5 g_a5; generalize hEq:upd _ a5 _=A8; refine newC hEq g_a5 ?_; clear hEq; intro X e_a5 o_a5)
  clear o_a5
  have n_a5:=sr.ne g_a5
  have f_a5:=none_back KS (rem_none (p:=p) g_a5)
  replace sr:=sr.same X
  have Y:=rem_mono (S:=p) X
  have r_a5:rem A8 p a5=some _:=(rem_ne n_a5).trans e_a5
  replace r_a1:=Y _ _ r_a1
  replace r_a2:=Y _ _ r_a2
  replace r_a3:=Y _ _ r_a3
  replace r_a4:=Y _ _ r_a4
  replace KS:=KS.trans Y
  replace its:=fun y h=>(BadU.same (its y h) Y)
  clear X g_a5 n_a5 e_a5 Y
  replace itf:=all_snoc itf (y:=V.ref a5) (fr_ref f_a5)
  replace its:=all_snoc its (y:=V.ref a5) (badU_one r_a5 .non nofun)
  refine ⟨s1,?_⟩
  (intro a6 g_a6; generalize hEq:upd _ a6 _=A9; refine newC hEq g_a6 ?_; clear hEq; intro X e_a6 o_a6)
  clear o_a6
  have n_a6:=sr.ne g_a6
  have f_a6:=none_back KS (rem_none (p:=p) g_a6)
  replace sr:=sr.same X
  have Y:=rem_mono (S:=p) X
  have r_a6:rem A9 p a6=some _:=(rem_ne n_a6).trans e_a6
  replace r_a1:=Y _ _ r_a1
  replace r_a2:=Y _ _ r_a2
  replace r_a3:=Y _ _ r_a3
  replace r_a4:=Y _ _ r_a4
  replace r_a5:=Y _ _ r_a5
  replace KS:=KS.trans Y
  replace its:=fun y h=>(BadU.same (its y h) Y)
  clear X g_a6 n_a6 e_a6 Y
  replace itf:=all_snoc itf (y:=V.ref a6) (fr_ref f_a6)
  replace its:=all_snoc its (y:=V.ref a6) (badU_txt (xs:=[""]) r_a6 (List.mem_cons_self ..) (prs_no (by decide)))
  refine ⟨_,rfl,s1,?_⟩
  (intro a7 g_a7; generalize hEq:upd _ a7 _=A10; refine newC hEq g_a7 ?_; clear hEq; intro X e_a7 o_a7)
  clear o_a7
  have n_a7:=sr.ne g_a7
  have f_a7:=none_back KS (rem_none (p:=p) g_a7)
  replace sr:=sr.same X
  have Y:=rem_mono (S:=p) X
  have r_a7:rem A10 p a7=some _:=(rem_ne n_a7).trans e_a7
  replace r_a1:=Y _ _ r_a1
  replace r_a2:=Y _ _ r_a2
  replace r_a3:=Y _ _ r_a3
  replace r_a4:=Y _ _ r_a4
  replace r_a5:=Y _ _ r_a5
  replace r_a6:=Y _ _ r_a6
  replace KS:=KS.trans Y
  replace its:=fun y h=>(BadU.same (its y h) Y)
  clear X g_a7 n_a7 e_a7 Y
  replace itf:=all_snoc itf (y:=V.ref a7) (fr_ref f_a7)
  replace its:=all_snoc its (y:=V.ref a7) (badU_txt (xs:=[sg1 c1]) r_a7 (List.mem_cons_self ..) (prs_no (by show ¬1=2; decide)))
  refine ⟨_,rfl,_,rfl,sg1 c1,sg1 c2,rfl,rfl,two_le,_,rfl,sg1 c1 ++ sg1 c2,sg1 c1,rfl,rfl,three_le,s1,?_⟩
  (intro a8 g_a8; generalize hEq:upd _ a8 _=A11; refine newC hEq g_a8 ?_; clear hEq; intro X e_a8 o_a8)
  clear o_a8
  have n_a8:=sr.ne g_a8
  have f_a8:=none_back KS (rem_none (p:=p) g_a8)
  replace sr:=sr.same X
  have Y:=rem_mono (S:=p) X
  have r_a8:rem A11 p a8=some _:=(rem_ne n_a8).trans e_a8
  replace r_a1:=Y _ _ r_a1
  replace r_a2:=Y _ _ r_a2
  replace r_a3:=Y _ _ r_a3
  replace r_a4:=Y _ _ r_a4
  replace r_a5:=Y _ _ r_a5
  replace r_a6:=Y _ _ r_a6
  replace r_a7:=Y _ _ r_a7
  replace KS:=KS.trans Y
  replace its:=fun y h=>(BadU.same (its y h) Y)
  clear X g_a8 n_a8 e_a8 Y
  replace itf:=all_snoc itf (y:=V.ref a8) (fr_ref f_a8)
  replace its:=all_snoc its (y:=V.ref a8) (badU_txt (xs:=[sg1 c1 ++ sg1 c2 ++ sg1 c1]) r_a8 (List.mem_cons_self ..) (prs_no (by show ¬3=2; decide)))
  clear r_a1
  clear r_a2
  clear r_a3
  clear r_a4
  clear r_a5
  clear r_a6
  clear r_a7
  clear r_a8
  refine ⟨sz (show 11≤100 by decide),?_⟩
  (intro L1 g_L1; generalize hEq:upd _ L1 _=A12; refine newC hEq g_L1 ?_; clear hEq; intro X e_L1 o_L1)
  clear o_L1
  have n_L1:=sr.ne g_L1
  have f_L1:=none_back KS (rem_none (p:=p) g_L1)
  replace sr:=sr.same X
  have Y:=rem_mono (S:=p) X
  have r_L1:rem A12 p L1=some _:=(rem_ne n_L1).trans e_L1
  replace KS:=KS.trans Y
  replace its:=fun y h=>(BadU.same (its y h) Y)
  clear X g_L1 n_L1 e_L1 Y
  refine kx [some (.ref N),some (.ref p),some (.str (sg1 c1)),some (.str (sg1 c2)),some (.str (sg1 fd)),some (.ref L1),none,none] _ ?_
  clear kx NX
  refine seq_cut fun NX kx=>?_
  refine ⟨_,rfl,_,rfl,_,rfl,sg1 c1,sg1 fd,rfl,rfl,two_le,s1,?_⟩
  (intro x1 g_x1; generalize hEq:upd _ x1 _=A13; refine newC hEq g_x1 ?_; clear hEq; intro X e_x1 o_x1)
  clear o_x1
  have n_x1:=sr.ne g_x1
  have f_x1:=none_back KS (rem_none (p:=p) g_x1)
  replace sr:=sr.same X
  have Y:=rem_mono (S:=p) X
  have r_x1:rem A13 p x1=some _:=(rem_ne n_x1).trans e_x1
  replace r_L1:=Y _ _ r_L1
  replace KS:=KS.trans Y
  replace its:=fun y h=>(BadU.same (its y h) Y)
  clear X g_x1 n_x1 e_x1 Y
  replace itf:=all_snoc itf (y:=V.ref x1) (fr_ref f_x1)
  replace its:=all_snoc its (y:=V.ref x1) (badU_txt (xs:=[sg1 c1 ++ sg1 fd]) r_x1 (List.mem_cons_self ..) (fun z=>prs_second nfd z))
  refine ⟨_,rfl,_,rfl,sg1 fd,sg1 c1,rfl,rfl,two_le,s1,?_⟩
  (intro x2 g_x2; generalize hEq:upd _ x2 _=A14; refine newC hEq g_x2 ?_; clear hEq; intro X e_x2 o_x2)
  clear o_x2
  have n_x2:=sr.ne g_x2
  have f_x2:=none_back KS (rem_none (p:=p) g_x2)
  replace sr:=sr.same X
  have Y:=rem_mono (S:=p) X
  have r_x2:rem A14 p x2=some _:=(rem_ne n_x2).trans e_x2
  replace r_L1:=Y _ _ r_L1
  replace r_x1:=Y _ _ r_x1
  replace KS:=KS.trans Y
  replace its:=fun y h=>(BadU.same (its y h) Y)
  clear X g_x2 n_x2 e_x2 Y
  replace itf:=all_snoc itf (y:=V.ref x2) (fr_ref f_x2)
  replace its:=all_snoc its (y:=V.ref x2) (badU_txt (xs:=[sg1 fd ++ sg1 c1]) r_x2 (List.mem_cons_self ..) (fun z=>prs_first nfd z rfl))
  refine ⟨_,rfl,_,rfl,sg1 c1,sg1 c2,rfl,rfl,two_le,_,rfl,_,rfl,sg1 c1,sg1 c2,rfl,rfl,two_le,s2,?_⟩
  (intro x3 g_x3; generalize hEq:upd _ x3 _=A15; refine newC hEq g_x3 ?_; clear hEq; intro X e_x3 o_x3)
  clear o_x3
  have n_x3:=sr.ne g_x3
  have f_x3:=none_back KS (rem_none (p:=p) g_x3)
  replace sr:=sr.same X
  have Y:=rem_mono (S:=p) X
  have r_x3:rem A15 p x3=some _:=(rem_ne n_x3).trans e_x3
  replace r_L1:=Y _ _ r_L1
  replace r_x1:=Y _ _ r_x1
  replace r_x2:=Y _ _ r_x2
  replace KS:=KS.trans Y
  replace its:=fun y h=>(BadU.same (its y h) Y)
  clear X g_x3 n_x3 e_x3 Y
  replace itf:=all_snoc itf (y:=V.ref x3) (fr_ref f_x3)
  replace its:=all_snoc its (y:=V.ref x3) (badU_dup (ts:=[sg1 c1 ++ sg1 c2,sg1 c1 ++ sg1 c2]) r_x3 (by simp))
  refine ⟨_,rfl,_,rfl,s2,?_⟩
  (intro y4 g_y4; generalize hEq:upd _ y4 _=A16; refine newC hEq g_y4 ?_; clear hEq; intro X e_y4 o_y4)
  clear o_y4
  have n_y4:=sr.ne g_y4
  have f_y4:=none_back KS (rem_none (p:=p) g_y4)
  replace sr:=sr.same X
  have Y:=rem_mono (S:=p) X
  have r_y4:rem A16 p y4=some _:=(rem_ne n_y4).trans e_y4
  replace r_L1:=Y _ _ r_L1
  replace r_x1:=Y _ _ r_x1
  replace r_x2:=Y _ _ r_x2
  replace r_x3:=Y _ _ r_x3
  replace KS:=KS.trans Y
  replace its:=fun y h=>(BadU.same (its y h) Y)
  clear X g_y4 n_y4 e_y4 Y
  refine ⟨s1,?_⟩
  (intro x4 g_x4; generalize hEq:upd _ x4 _=A17; refine newC hEq g_x4 ?_; clear hEq; intro X e_x4 o_x4)
  clear o_x4
  have n_x4:=sr.ne g_x4
  have f_x4:=none_back KS (rem_none (p:=p) g_x4)
  replace sr:=sr.same X
  have Y:=rem_mono (S:=p) X
  have r_x4:rem A17 p x4=some _:=(rem_ne n_x4).trans e_x4
  replace r_L1:=Y _ _ r_L1
  replace r_x1:=Y _ _ r_x1
  replace r_x2:=Y _ _ r_x2
  replace r_x3:=Y _ _ r_x3
  replace r_y4:=Y _ _ r_y4
  replace KS:=KS.trans Y
  replace its:=fun y h=>(BadU.same (its y h) Y)
  clear X g_x4 n_x4 e_x4 Y
  replace itf:=all_snoc itf (y:=V.ref x4) (fr_ref f_x4)
  replace its:=all_snoc its (y:=V.ref x4) (badU_one r_x4 (.tup r_y4) nofun)
  refine ⟨_,rfl,_,rfl,s2,?_⟩
  (intro y5 g_y5; generalize hEq:upd _ y5 _=A18; refine newC hEq g_y5 ?_; clear hEq; intro X e_y5 o_y5)
  clear o_y5
  have n_y5:=sr.ne g_y5
  have f_y5:=none_back KS (rem_none (p:=p) g_y5)
  replace sr:=sr.same X
  have Y:=rem_mono (S:=p) X
  have r_y5:rem A18 p y5=some _:=(rem_ne n_y5).trans e_y5
  replace r_L1:=Y _ _ r_L1
  replace r_x1:=Y _ _ r_x1
  replace r_x2:=Y _ _ r_x2
  replace r_x3:=Y _ _ r_x3
  replace r_y4:=Y _ _ r_y4
  replace r_x4:=Y _ _ r_x4
  replace KS:=KS.trans Y
  replace its:=fun y h=>(BadU.same (its y h) Y)
  clear X g_y5 n_y5 e_y5 Y
  refine ⟨s1,?_⟩
  (intro x5 g_x5; generalize hEq:upd _ x5 _=A19; refine newC hEq g_x5 ?_; clear hEq; intro X e_x5 o_x5)
  clear o_x5
  have n_x5:=sr.ne g_x5
  have f_x5:=none_back KS (rem_none (p:=p) g_x5)
  replace sr:=sr.same X
  have Y:=rem_mono (S:=p) X
  have r_x5:rem A19 p x5=some _:=(rem_ne n_x5).trans e_x5
  replace r_L1:=Y _ _ r_L1
  replace r_x1:=Y _ _ r_x1
  replace r_x2:=Y _ _ r_x2
  replace r_x3:=Y _ _ r_x3
  replace r_y4:=Y _ _ r_y4
  replace r_x4:=Y _ _ r_x4
  replace r_y5:=Y _ _ r_y5
  replace KS:=KS.trans Y
  replace its:=fun y h=>(BadU.same (its y h) Y)
  clear X g_x5 n_x5 e_x5 Y
  replace itf:=all_snoc itf (y:=V.ref x5) (fr_ref f_x5)
  replace its:=all_snoc its (y:=V.ref x5) (badU_one r_x5 (.lst r_y5) nofun)
  clear r_x1
  clear r_x2
  clear r_x3
  clear r_x4
  clear r_x5
  clear r_y4
  clear r_y5
  refine ⟨sz (show 5≤100 by decide),?_⟩
  (intro L2 g_L2; generalize hEq:upd _ L2 _=A20; refine newC hEq g_L2 ?_; clear hEq; intro X e_L2 o_L2)
  clear o_L2
  have n_L2:=sr.ne g_L2
  have f_L2:=none_back KS (rem_none (p:=p) g_L2)
  replace sr:=sr.same X
  have Y:=rem_mono (S:=p) X
  have r_L2:rem A20 p L2=some _:=(rem_ne n_L2).trans e_L2
  replace r_L1:=Y _ _ r_L1
  replace KS:=KS.trans Y
  replace its:=fun y h=>(BadU.same (its y h) Y)
  clear X g_L2 n_L2 e_L2 Y
  refine ⟨L1,L2,_,_,rfl,rfl,(rem_same _ _ r_L1),(rem_same _ _ r_L2),sz (show 11 + 5≤100 by decide),?_⟩
  (intro L3 g_L3; generalize hEq:upd _ L3 _=A21; refine newC hEq g_L3 ?_; clear hEq; intro X e_L3 o_L3)
  clear o_L3
  have n_L3:=sr.ne g_L3
  have f_L3:=none_back KS (rem_none (p:=p) g_L3)
  replace sr:=sr.same X
  have Y:=rem_mono (S:=p) X
  have r_L3:rem A21 p L3=some _:=(rem_ne n_L3).trans e_L3
  replace r_L1:=Y _ _ r_L1
  replace r_L2:=Y _ _ r_L2
  replace KS:=KS.trans Y
  replace its:=fun y h=>(BadU.same (its y h) Y)
  clear X g_L3 n_L3 e_L3 Y
  clear r_L1
  clear r_L2
  refine kx [some (.ref N),some (.ref p),some (.str (sg1 c1)),some (.str (sg1 c2)),some (.str (sg1 fd)),some (.ref L3),none,none] _ ?_
  clear kx NX
  refine seq_cut fun NX kx=>?_
  refine ⟨_,rfl,N,_,_,_,rfl,rfl,SqL.of (rem_same _ _ (KS _ _ hN)),at0,_,rfl,N,_,_,_,rfl,rfl,SqL.of (rem_same _ _ (KS _ _ hN)),at1,_,_,rfl,rfl,two_le,?_⟩
  refine kx [some (.ref N),some (.ref p),some (.str (sg1 c1)),some (.str (sg1 c2)),some (.str (sg1 fd)),some (.ref L3),some (.str (sg1 k0 ++ sg1 k1)),none] _ ?_
  clear kx NX
  refine seq_cut fun NX kx=>?_
  refine ⟨_,rfl,N,_,_,_,rfl,rfl,SqL.of (rem_same _ _ (KS _ _ hN)),at1,_,rfl,N,_,_,_,rfl,rfl,SqL.of (rem_same _ _ (KS _ _ hN)),at0,_,_,rfl,rfl,two_le,?_⟩
  refine kx [some (.ref N),some (.ref p),some (.str (sg1 c1)),some (.str (sg1 c2)),some (.str (sg1 fd)),some (.ref L3),some (.str (sg1 k0 ++ sg1 k1)),some (.str (sg1 k1 ++ sg1 k0))] _ ?_
  clear kx NX
  refine ⟨_,rfl,_,rfl,sg1 c1," ",rfl,rfl,two_le (d:=32),s1,?_⟩
  (intro z1 g_z1; generalize hEq:upd _ z1 _=A22; refine newC hEq g_z1 ?_; clear hEq; intro X e_z1 o_z1)
  clear o_z1
  have n_z1:=sr.ne g_z1
  have f_z1:=none_back KS (rem_none (p:=p) g_z1)
  replace sr:=sr.same X
  have Y:=rem_mono (S:=p) X
  have r_z1:rem A22 p z1=some _:=(rem_ne n_z1).trans e_z1
  replace r_L3:=Y _ _ r_L3
  replace KS:=KS.trans Y
  replace its:=fun y h=>(BadU.same (its y h) Y)
  clear X g_z1 n_z1 e_z1 Y
  replace itf:=all_snoc itf (y:=V.ref z1) (fr_ref f_z1)
  replace its:=all_snoc its (y:=V.ref z1) (badU_txt (xs:=[sg1 c1 ++ sg1 32]) r_z1 (List.mem_cons_self ..) (fun z=>prs_second (d:=32) (fun m=>by have:=al 32 m; revert this; decide +kernel) z))
  obtain ⟨ud,eu,ou⟩:=up_no oc_c1
  have nud:ud∉cs:=fun m=>by rw [al ud m] at ou; cases ou
  refine ⟨_,rfl,rfl,sg1 c1,rfl,rfl,up_len oc_c1,_,rfl,Txt.upper (sg1 c1),sg1 c2,rfl,rfl,(by rw [eu]; exact two_le),s1,?_⟩
  (intro z2 g_z2; generalize hEq:upd _ z2 _=A23; refine newC hEq g_z2 ?_; clear hEq; intro X e_z2 o_z2)
  clear o_z2
  have n_z2:=sr.ne g_z2
  have f_z2:=none_back KS (rem_none (p:=p) g_z2)
  replace sr:=sr.same X
  have Y:=rem_mono (S:=p) X
  have r_z2:rem A23 p z2=some _:=(rem_ne n_z2).trans e_z2
  replace r_L3:=Y _ _ r_L3
  replace r_z1:=Y _ _ r_z1
  replace KS:=KS.trans Y
  replace its:=fun y h=>(BadU.same (its y h) Y)
  clear X g_z2 n_z2 e_z2 Y
  replace itf:=all_snoc itf (y:=V.ref z2) (fr_ref f_z2)
  replace its:=all_snoc its (y:=V.ref z2) (badU_txt (xs:=[Txt.upper (sg1 c1) ++ sg1 c2]) r_z2 (List.mem_cons_self ..) (fun z=>by rw [eu] at z; exact prs_first nud z rfl))
  refine ⟨_,rfl,_,rfl,_,rfl,sz (show 3≤100 by decide),?_⟩
  (intro z3 g_z3; generalize hEq:upd _ z3 _=A24; refine newC hEq g_z3 ?_; clear hEq; intro X e_z3 o_z3)
  clear o_z3
  have n_z3:=sr.ne g_z3
  have f_z3:=none_back KS (rem_none (p:=p) g_z3)
  replace sr:=sr.same X
  have Y:=rem_mono (S:=p) X
  have r_z3:rem A24 p z3=some _:=(rem_ne n_z3).trans e_z3
  replace r_L3:=Y _ _ r_L3
  replace r_z1:=Y _ _ r_z1
  replace r_z2:=Y _ _ r_z2
  replace KS:=KS.trans Y
  replace its:=fun y h=>(BadU.same (its y h) Y)
  clear X g_z3 n_z3 e_z3 Y
  replace itf:=all_snoc itf (y:=V.ref z3) (fr_ref f_z3)
  replace its:=all_snoc its (y:=V.ref z3) (badU_dup (ts:=[sg1 k0 ++ sg1 k1,sg1 k1 ++ sg1 k0,sg1 k0 ++ sg1 k1]) r_z3 (by simp))
  refine ⟨sz (show 3≤100 by decide),?_⟩
  (intro L4 g_L4; generalize hEq:upd _ L4 _=A25; refine newC hEq g_L4 ?_; clear hEq; intro X e_L4 o_L4)
  clear o_L4
  have n_L4:=sr.ne g_L4
  have f_L4:=none_back KS (rem_none (p:=p) g_L4)
  replace sr:=sr.same X
  have Y:=rem_mono (S:=p) X
  have r_L4:rem A25 p L4=some _:=(rem_ne n_L4).trans e_L4
  replace r_L3:=Y _ _ r_L3
  replace r_z1:=Y _ _ r_z1
  replace r_z2:=Y _ _ r_z2
  replace r_z3:=Y _ _ r_z3
  replace KS:=KS.trans Y
  replace its:=fun y h=>(BadU.same (its y h) Y)
  clear X g_L4 n_L4 e_L4 Y
  refine ⟨L3,L4,_,_,rfl,rfl,(rem_same _ _ r_L3),(rem_same _ _ r_L4),sz (show 16 + 3≤100 by decide),?_⟩
  (intro L5 g_L5; generalize hEq:upd _ L5 _=A26; refine newC hEq g_L5 ?_; clear hEq; intro X e_L5 o_L5)
  clear o_L5
  have n_L5:=sr.ne g_L5
  have f_L5:=none_back KS (rem_none (p:=p) g_L5)
  replace sr:=sr.same X
  have Y:=rem_mono (S:=p) X
  have r_L5:rem A26 p L5=some _:=(rem_ne n_L5).trans e_L5
  replace r_L3:=Y _ _ r_L3
  replace r_z1:=Y _ _ r_z1
  replace r_z2:=Y _ _ r_z2
  replace r_z3:=Y _ _ r_z3
  replace r_L4:=Y _ _ r_L4
  replace KS:=KS.trans Y
  replace its:=fun y h=>(BadU.same (its y h) Y)
  clear X g_L5 n_L5 e_L5 Y
  clear r_z1
  clear r_z2
  clear r_z3
  clear r_L3
  clear r_L4
  have yl:([V.non,V.ref a1,V.ref a2,V.str (sg1 c1 ++ sg1 c2),V.ref a3,V.int 5,V.ref a4,V.ref a5,V.ref a6,V.ref a7,V.ref a8] ++ [V.ref x1,V.ref x2,V.ref x3,V.ref x4,V.ref x5] ++ [V.ref z1,V.ref z2,V.ref z3]:List V).length=19:=rfl
  replace its:∀y∈([V.non,V.ref a1,V.ref a2,V.str (sg1 c1 ++ sg1 c2),V.ref a3,V.int 5,V.ref a4,V.ref a5,V.ref a6,V.ref a7,V.ref a8] ++ [V.ref x1,V.ref x2,V.ref x3,V.ref x4,V.ref x5] ++ [V.ref z1,V.ref z2,V.ref z3]:List V),BadU (rem A26 p) (prs (sgs cs)) y:=its
  replace itf:∀y∈([V.non,V.ref a1,V.ref a2,V.str (sg1 c1 ++ sg1 c2),V.ref a3,V.int 5,V.ref a4,V.ref a5,V.ref a6,V.ref a7,V.ref a8] ++ [V.ref x1,V.ref x2,V.ref x3,V.ref x4,V.ref x5] ++ [V.ref z1,V.ref z2,V.ref z3]:List V),Fr H p y:=itf
  have r_L:rem A26 p L5=some (.lst ([V.non,V.ref a1,V.ref a2,V.str (sg1 c1 ++ sg1 c2),V.ref a3,V.int 5,V.ref a4,V.ref a5,V.ref a6,V.ref a7,V.ref a8] ++ [V.ref x1,V.ref x2,V.ref x3,V.ref x4,V.ref x5] ++ [V.ref z1,V.ref z2,V.ref z3]:List V)):=r_L5
  clear r_L5
  generalize ([V.non,V.ref a1,V.ref a2,V.str (sg1 c1 ++ sg1 c2),V.ref a3,V.int 5,V.ref a4,V.ref a5,V.ref a6,V.ref a7,V.ref a8] ++ [V.ref x1,V.ref x2,V.ref x3,V.ref x4,V.ref x5] ++ [V.ref z1,V.ref z2,V.ref z3]:List V)=ys at yl its itf r_L
  refine ⟨_,rfl,p,_,rfl,sr,(by show (0:Int) < 19; decide),B100 19 (by decide),fun z_w A27 z0_w zm_w sr3 o3=>?_⟩
  obtain ⟨w,rfl⟩:=Int.eq_ofNat_of_zero_le z0_w
  have h_w:w < 19:=by omega
  have Y:=rem_eqS o3
  replace r_L:=Y _ _ r_L
  replace KS:=KS.trans Y
  replace its:=fun y h=>(BadU.same (its y h) Y)
  replace sr:=sr3
  clear o3 Y z0_w zm_w
  have ey:ys[w]? = some (ys[w]'(by omega)):=List.getElem?_eq_getElem _
  generalize ys[w]'(by omega)=yy at ey
  exact ⟨L5,_,_,_,rfl,rfl,SqL.of (rem_same _ _ r_L),atI_nat ey,q _ _ sr KS (itf _ (List.mem_of_getElem? ey)) (its _ (List.mem_of_getElem? ey))⟩
end
theorem Src.put {H:Hp} {p M:Addr} {o:HO} (s:Src H p) (n:M≠p):Src (upd H M o) p:=by
 obtain ⟨a,d,e,r⟩:=s.ex
 exact ⟨a,d,by rw [upd_ne (fun z=>n z.symm)]; exact e,r⟩
structure Put (G G':Hp) (M:Addr):Prop where
 keep:∀b o,b≠M→G b=some o→G' b=some o
 l:∃xs,G M=some (.lst xs)
 l':∃xs,G' M=some (.lst xs)
section
variable {G G':Hp} {M:Addr}
theorem Put.tup (m:Put G G' M) {a:Addr} {xs:List V} (h:G a=some (.tup xs)):G' a=some (.tup xs):=m.keep a _ (fun z=>by obtain ⟨ys,e⟩:=m.l; rw [← z,h] at e; cases e) h
theorem Put.th (m:Put G G' M) {x:V} (h:Th G x):Th G' x:=by
 cases h with
 | @lst a xs h=>
  by_cases e:a=M
  ·obtain ⟨ys,e'⟩:=m.l'; rw [e]; exact .lst e'
  ·exact .lst (m.keep _ _ e h)
 | tup h=>exact .tup (m.tup h)
 | @dK a xs h=>exact .dK (m.keep _ _ (fun z=>by obtain ⟨ys,e⟩:=m.l; rw [← z,h] at e; cases e) h)
 | non=>exact .non
 | bl b=>exact .bl b
 | int i=>exact .int i
 | str z=>exact .str z
theorem Put.back (m:Put G G' M) {a:Addr} {xs:List V} (t:Th G (.ref a)) (h:G' a=some (.tup xs)):G a=some (.tup xs):=by
 have ne:a≠M:=fun z=>by obtain ⟨ys,e⟩:=m.l'; rw [← z,h] at e; cases e
 cases t with
 | lst g=>rw [m.keep _ _ ne g] at h; cases h
 | tup g=>rw [m.keep _ _ ne g] at h; cases h; exact g
 | dK g=>rw [m.keep _ _ ne g] at h; cases h
theorem Put.backL (m:Put G G' M) {a:Addr} {xs:List V} (t:Th G (.ref a)) (ne:a≠M) (h:G' a=some (.lst xs)):G a=some (.lst xs):=by
 cases t with
 | lst g=>rw [m.keep _ _ ne g] at h; cases h; exact g
 | tup g=>rw [m.keep _ _ ne g] at h; cases h
 | dK g=>rw [m.keep _ _ ne g] at h; cases h
theorem Put.thd (m:Put G G' M) {x:V} (h:ThD G x):ThD G' x:=⟨m.th h.th,fun a xs e g y hy=>(by subst e; exact m.th (h.parts a xs rfl (m.back h.th g) y hy)),fun a n d e g=>(by subst e; exact h.few a n d rfl (m.back h.th g)),h.str⟩
theorem Put.thr (m:Put G G' M) {x:V} (h:ThR G x):ThR G' x:=⟨m.th h.th,fun a xs e g y hy=>(by subst e; exact m.thd (h.parts a xs rfl (m.back h.th g) y hy))⟩
theorem Put.ths (m:Put G G' M) {x:V} (h:ThS G x) (n:∀a,x = .ref a→a≠M):ThS G' x:=⟨m.th h.th,fun a xs e g y hy=>(by subst e; exact m.thr (h.rows a xs rfl (m.backL h.th (n a rfl) g) y hy))⟩
theorem Put.thu (m:Put G G' M) {x:V} (h:ThU G x) (n:∀a,x = .ref a→a≠M):ThU G' x:=⟨m.th h.th,fun a xs e g y hy=>(by subst e; exact m.th (h.els a xs rfl (m.backL h.th (n a rfl) g) y hy))⟩
theorem Put.ab (m:Put G G' M) {x:V} (t:Th G x) (h:AbP G' x):AbP G x:=by
 obtain ⟨a,n,d,rfl,ha,r⟩:=h
 exact ⟨a,n,d,rfl,m.back t ha,r⟩
theorem Put.row (m:Put G G' M) {x:V} {c:Nat} (t:ThR G x) (h:RowP G' x c):RowP G x c:=by
 obtain ⟨a,p,l,rfl,ha,oc,hp,hl⟩:=h
 have ha':=m.back t.th ha
 exact ⟨a,p,l,rfl,ha',oc,m.ab (t.parts a _ rfl ha' p (by simp)).th hp,hl.imp id fun z=>m.ab (t.parts a _ rfl ha' l (by simp)).th z⟩
theorem Put.badS (m:Put G G' M) {x:V} (h:BadS G x) (n:∀a,x = .ref a→a≠M):BadS G' x:=⟨m.ths h.1 n,fun cs ⟨S,xs,e,hS,r,z⟩=>by
 subst e
 have hS0:=m.backL h.1.th (n S rfl) hS
 exact h.2 cs ⟨S,xs,rfl,hS0,⟨r.len,fun i x c e1 e2=>m.row (h.1.rows S xs rfl hS0 x (List.mem_of_getElem? e1)) (r.row i x c e1 e2)⟩,z⟩⟩
theorem Put.badU (m:Put G G' M) {ks:List Str} {x:V} (h:BadU G ks x) (n:∀a,x = .ref a→a≠M):BadU G' ks x:=⟨m.thu h.1 n,fun ts ⟨L,e,hL,z⟩=>by
 subst e
 exact h.2 ts ⟨L,rfl,m.backL h.1.th (n L rfl) hL,z⟩⟩
end
theorem spoilt_out {G:Hp} {T S F0 G0:Addr} {lg:Int} {cs:List Nat} {fs ps:List Str} {x1 x2 x3 x4:V} {ms:List V} {k:Nat} (h:G T=some (.tup ms)) (l:ms.length=4) (k4:k < 4)
  (tS:ThS G (.ref S)) (tF:ThU G (.ref F0)) (tG:ThU G (.ref G0)) (gS:SigP G (.ref S) cs) (gF:UnlP G (.ref F0) (sgs cs) fs) (gG:UnlP G (.ref G0) (prs (sgs cs)) ps)
  (b1:BadS G x1) (b2:BadU G (sgs cs) x2) (b3:BadU G (prs (sgs cs)) x3) (b4:Th G x4∧inB x4 1 8=false)
  (alt:∀q,q < 4→ms[q]? = [V.ref S,V.ref F0,V.ref G0,V.int lg][q]?∨ms[q]? = [x1,x2,x3,x4][q]?) (lo:∀q,q < k→ms[q]? = [V.ref S,V.ref F0,V.ref G0,V.int lg][q]?) (at_:ms[k]? = [x1,x2,x3,x4][k]?) :
  ThT G (.ref T)∧∃v,[V.str "signs",V.str "firsts",V.str "pairs",V.str "longest"][k]? = some v∧OutT G (.ref T) (some v):=by
 obtain ⟨m0,m1,m2,m3,rfl⟩:=four_of l
 have a0:m0 = .ref S∨m0=x1:=(alt 0 (by decide)).imp (fun e=>Option.some.inj e) (fun e=>Option.some.inj e)
 have a1:m1 = .ref F0∨m1=x2:=(alt 1 (by decide)).imp (fun e=>Option.some.inj e) (fun e=>Option.some.inj e)
 have a2:m2 = .ref G0∨m2=x3:=(alt 2 (by decide)).imp (fun e=>Option.some.inj e) (fun e=>Option.some.inj e)
 have a3:m3 = .int lg∨m3=x4:=(alt 3 (by decide)).imp (fun e=>Option.some.inj e) (fun e=>Option.some.inj e)
 refine ⟨tht h (a0.elim (fun e=>e ▸ tS) (fun e=>e ▸ b1.1)) (a1.elim (fun e=>e ▸ tF) (fun e=>e ▸ b2.1)) (a2.elim (fun e=>e ▸ tG) (fun e=>e ▸ b3.1)) (a3.elim (fun e=>e ▸ .int lg) (fun e=>e ▸ b4.1)),?_⟩
 match k,k4 with
 | 0,_=>
  obtain rfl:m0=x1:=Option.some.inj at_
  exact ⟨_,rfl,.signs h b1.2⟩
 | 1,_=>
  obtain rfl:m0 = .ref S:=Option.some.inj (lo 0 (by decide))
  obtain rfl:m1=x2:=Option.some.inj at_
  exact ⟨_,rfl,.firsts h gS b2.2⟩
 | 2,_=>
  obtain rfl:m0 = .ref S:=Option.some.inj (lo 0 (by decide))
  obtain rfl:m1 = .ref F0:=Option.some.inj (lo 1 (by decide))
  obtain rfl:m2=x3:=Option.some.inj at_
  exact ⟨_,rfl,.pairs h gS gF b3.2⟩
 | 3,_=>
  obtain rfl:m0 = .ref S:=Option.some.inj (lo 0 (by decide))
  obtain rfl:m1 = .ref F0:=Option.some.inj (lo 1 (by decide))
  obtain rfl:m2 = .ref G0:=Option.some.inj (lo 2 (by decide))
  obtain rfl:m3=x4:=Option.some.inj at_
  exact ⟨_,rfl,.longest h gS gF gG b4.2⟩
theorem ixN_nat {n j:Nat} (h:j < n):ixN n (j:Int)=some j:=by
 unfold ixN
 rw [if_pos (by omega),if_pos (by omega),Int.toNat_natCast]
def IK (H:Hp) (x:V):Prop:=ThT H x∧OutT H x (some .non)
theorem IK.same {H H':Hp} {x:V} (h:IK H x) (s:Same H H'):IK H' x:=⟨h.1.kp (Kp.same s),outT_kp (Kp.same s) h.1 h.2⟩
theorem ik_no {H:Hp} {x:V} (t:Th H x) (n:∀a xs,x = .ref a→H a=some (.tup xs)→xs.length≠4):IK H x:=⟨⟨t,fun a s f p l e h=>absurd rfl (n a _ e h)⟩,.kind n⟩
theorem notup_lst {H:Hp} {b:Addr} {ys:List V} (h:H b=some (.lst ys)):∀a xs,V.ref b = .ref a→H a=some (.tup xs)→xs.length≠4:=fun a xs e g=>by cases e; rw [h] at g; cases g
theorem notup_dct {H:Hp} {b:Addr} {ys:List (Key × V)} (h:H b=some (.dK ys)):∀a xs,V.ref b = .ref a→H a=some (.tup xs)→xs.length≠4:=fun a xs e g=>by cases e; rw [h] at g; cases g
theorem notup_len {H:Hp} {b:Addr} {ys:List V} (h:H b=some (.tup ys)) (n:ys.length≠4):∀a xs,V.ref b = .ref a→H a=some (.tup xs)→xs.length≠4:=fun a xs e g=>by cases e; rw [h] at g; cases g; exact n
def BL (H:Hp) (x:V):Prop:=Th H x∧inB x 1 8=false
theorem BL.same {H H':Hp} {x:V} (h:BL H x) (s:Same H H'):BL H' x:=⟨h.1.kp (Kp.same s),h.2⟩
section
variable {P:Program} {w:World} {K:PySem.W.Frag} {mg:Str→Option Value} {base:Heap} {c:List Addr}
def spSpoilt:Sp:=fun vs H Q _=>∃(t p:Addr) (cs:List Nat) (fs ps:List Str) (lg:Int),vs=[.ref t,.ref p]∧Src H p∧Tg (rem H p) t cs fs ps lg∧∀r x v H',Src H' p→Same (rem H p) (rem H' p)→rem H' p r=some (.tup [x,v])→ThT (rem H' p) x→OutT (rem H' p) x (some v)→Q (.ref r) H'
theorem scSp:FnScope ["_law_tongue_here","_law_source_here","_law_signs_here","_law_firsts","_law_pairs","_law_longest","_law_names","_law_some","_law_made","_law_first","_law_bad_longest","_law_bad","_law_part_here"] ["_law_tongue_here","_law_source_here"] (defScope sSpoilt):=⟨rfl,rfl,rfl,by decide +kernel,rfl,by decide +kernel,by decide +kernel⟩
theorem ok_spoilt {f fD fS fF fP:Addr} {fd fdD fdS fdF fdP:FuncData} (F:FunG K "_law_spoilt" "_law_spoilt" sSpoilt .none f fd) (B:Bl mg)
  (GD:FnOk P w K mg base (CXE P w) 1 fD fdD ["_law_source_here","_law_many"] spDraw) (mD:mg "_law_draw" = some (.ref fD)) (kD:PySem.W.keepIn K (.ref fD)=true) (bD:Binds K fdD ["_law_source_here","_law_many"] [])
  (GS:FnOk P w K mg base (CXE P w) 2 fS fdS ["_law_signs_here","_law_source_here"] spBadS) (mS:mg "_law_bad_signs" = some (.ref fS)) (kS:PySem.W.keepIn K (.ref fS)=true) (bS:Binds K fdS ["_law_signs_here","_law_source_here"] [])
  (GF:FnOk P w K mg base (CXE P w) 2 fF fdF ["_law_names","_law_source_here"] spBadF) (mF:mg "_law_bad_firsts" = some (.ref fF)) (kF:PySem.W.keepIn K (.ref fF)=true) (bF:Binds K fdF ["_law_names","_law_source_here"] [])
  (GP:FnOk P w K mg base (CXE P w) 2 fP fdP ["_law_names","_law_source_here"] spBadP) (mP:mg "_law_bad_pairs" = some (.ref fP)) (kP:PySem.W.keepIn K (.ref fP)=true) (bP:Binds K fdP ["_law_names","_law_source_here"] []):FnOk P w K mg base (CXE P w) 3 f fd ["_law_tongue_here","_law_source_here"] spSpoilt:=by
 refine F.zokN scSp (fun vs H Q E h=>?_) (fun cdv A outer s H vs Q E hr h=>?_)
 ·obtain ⟨t,p,cs,fs,ps,lg,rfl,_⟩:=h
  rfl
 ·obtain ⟨t,p,cs,fs,ps,lg,rfl,sr,tg,q⟩:=h
  refine ⟨_,(zpss_cons (zps_asg (zpv 0) (zpg_tup rfl (zpgs_cons (zpg_name (i:=2) scSp.nd rfl (Or.inl rfl)) (zpgs_cons (zpg_name (i:=3) scSp.nd rfl (Or.inl rfl)) (zpgs_cons (zpg_name (i:=4) scSp.nd rfl (Or.inl rfl)) (zpgs_cons (zpg_name (i:=5) scSp.nd rfl (Or.inl rfl)) zpgs_nil))))))
   (zpss_cons (zps_compL (i:=6) ["_law_tongue_here","_law_source_here","_law_signs_here","_law_firsts","_law_pairs","_law_longest","_law_names","_law_some","_law_made","_law_first","_law_bad_longest","_law_bad","_law_part_here"] ["_law_one"] [] (defScope sSpoilt) rfl rfl rfl ⟨by decide +kernel,by decide +kernel,by decide +kernel,by decide +kernel,by decide +kernel⟩ scSp.nd rfl (Or.inl rfl) (zpi_list (zpv 2)) (fun s H fp=>(zpg_name (i:=0) (show List.Nodup [("_law_one" : Str)] by decide +kernel) rfl (Or.inl rfl))) (fun s H fp=>zpts_nil) (fun s H fp=>(zpe_ix (ix_tupK K rfl) (zpv 0) zpe_int (fun _ _=>rfl))))
   (zpss_cons (zps_if (zpt_cmpR op_eq (zpe_call GD (hr.mono (by decide)) (by rfl) mD kD bD .nil passE0 (zpac_n (zpv 1) (zpac_c zpe_int zpa_nil))) zpe_int (nomark _)) (zpss_cons (zps_set (i:=7) scSp.nd rfl (Or.inl rfl) (zpe_lst (zpac_c zpe_non (zpac_c zpe_int (zpac_c zpe_bl (zpac_c zpe_str (zpac_c zpe_str (zpac_f (zpe_callTy call_list_of (by rfl) B.list boot_list (zpac_n (zpv 0) zpa_nil)) (zpac_s (zpe_slice sl_tup (zpv 0) zpo_none (zpo_some zpe_int)) (zpac_b (zpe_op op_catT (zpv 0) (zpe_tup (zpac_c zpe_int zpa_nil))) (zpac_t (zpe_tup zpa_nil) (zpac_d zpe_dict0 (zpac_t (zpe_tup (zpac_n (zpv 0) zpa_nil)) (zpac_l (zpe_lst (zpac_n (zpv 0) zpa_nil)) zpa_nil))))))))))))))
   (zpss_one (zps_ret (zpe_tup (zpac_s (zpe_ix ix_list (zpv 7) (zpe_call GD (hr.mono (by decide)) (by rfl) mD kD bD .nil passE0 (zpac_n (zpv 1) (zpac_c zpe_int zpa_nil))) (fun _ _=>rfl)) (zpac_c zpe_non zpa_nil)))))) zpss_nil)
   (zpss_cons (zps_set (i:=8) scSp.nd rfl (Or.inl rfl) (zpe_lst (zpac_n (zpv 2) (zpac_n (zpv 3) (zpac_n (zpv 4) (zpac_n (zpv 5) zpa_nil))))))
   (zpss_cons (zps_set (i:=9) scSp.nd rfl (Or.inl rfl) (zpe_call GD (hr.mono (by decide)) (by rfl) mD kD bD .nil passE0 (zpac_n (zpv 1) (zpac_c zpe_int zpa_nil))))
   (zpss_cons (zps_set (i:=10) scSp.nd rfl (Or.inl rfl) (zpe_ix ix_list (zpe_lst (zpac_c zpe_int (zpac_c zpe_int (zpac_u (zpe_un un_neg zpe_int) (zpac_b (zpe_op op_pow zpe_int zpe_int) (zpac_c zpe_bl (zpac_c zpe_non (zpac_c zpe_str (zpac_l (zpe_lst (zpac_c zpe_int zpa_nil)) (zpac_t (zpe_tup (zpac_c zpe_int zpa_nil)) zpa_nil)))))))))) (zpe_call GD (hr.mono (by decide)) (by rfl) mD kD bD .nil passE0 (zpac_n (zpv 1) (zpac_c zpe_int zpa_nil))) (fun _ _=>rfl)))
   (zpss_cons (zps_set (i:=11) scSp.nd rfl (Or.inl rfl) (zpe_lst (zpac_f (zpe_call GS hr (by rfl) mS kS bS .nil passE0 (zpac_n (zpv 2) (zpac_n (zpv 1) zpa_nil))) (zpac_f (zpe_call GF hr (by rfl) mF kF bF .nil passE0 (zpac_n (zpv 6) (zpac_n (zpv 1) zpa_nil))) (zpac_f (zpe_call GP hr (by rfl) mP kP bP .nil passE0 (zpac_n (zpv 6) (zpac_n (zpv 1) zpa_nil))) (zpac_n (zpv 10) zpa_nil))))))
   (zpss_cons (zps_for PassesOwn.never rfl (zpi_range1 (by rfl) B.range (zpac_c zpe_int zpa_nil)) (zpg_name (i:=12) scSp.nd rfl (Or.inl rfl))
     (zpss_one (zps_if (SPW.pt (zpw_or (zpt_cmpR op_eq (zpv 12) (zpv 9) (nomark _)) (zpw_or1 (SPW.pt (zpw_and (zpt_cmpR op_gt (zpv 12) (zpv 9) (nomark _)) (zpw_and1 (zpt_cmpR op_eq (zpe_call GD (hr.mono (by decide)) (by rfl) mD kD bD .nil passE0 (zpac_n (zpv 1) (zpac_c zpe_int zpa_nil))) zpe_int (nomark _)))))))) (zpss_one (zps_asg (zpe_ix ix_list (zpv 11) (zpv 12) (fun _ _=>rfl)) (zpg_sub (zpv 8) (zpv 12) set_list))) zpss_nil)))
   (zpss_one (zps_ret (zpe_tup (zpac_f (zpe_callTy call_tuple_of (by rfl) B.tuple boot_tuple (zpac_n (zpv 8) zpa_nil)) (zpac_s (zpe_ix ix_list (zpe_lst (zpac_c zpe_str (zpac_c zpe_str (zpac_c zpe_str (zpac_c zpe_str zpa_nil))))) (zpv 9) (fun _ _=>rfl)) zpa_nil))))))))))))),?_⟩
  have sz:∀{m:Nat},m≤100→m≤sizeLine:=fun h=>Nat.le_trans h (by decide)
  have s1:1≤sizeLine:=sz (show 1≤100 by decide)
  have s2:2≤sizeLine:=sz (show 2≤100 by decide)
  have s4:4≤sizeLine:=sz (show 4≤100 by decide)
  obtain ⟨S,F0,G0,xs,g1,g2,g3,g4,g5⟩:=tg.ex
  have c2:=tg.c2
  have c6:=tg.c6
  have xl:xs.length=cs.length:=g3.len
  have al:∀c∈cs,occ c=true:=fun c hc=>by
   obtain ⟨i,hi⟩:=List.getElem?_of_mem hc
   have ex:xs[i]? = some (xs[i]'(by have:=(List.getElem?_eq_some_iff.mp hi).1; omega)):=List.getElem?_eq_getElem _
   exact (g3.row i _ c ex hi).oc
  have thS:∀{H':Hp},Same (rem H p) H'→ThS H' (.ref S):=fun s=>((tg.out.1.parts t _ _ _ _ rfl g1).1).kp (Kp.same s)
  have thF:∀{H':Hp},Same (rem H p) H'→ThU H' (.ref F0):=fun s=>((tg.out.1.parts t _ _ _ _ rfl g1).2.1).kp (Kp.same s)
  have thG:∀{H':Hp},Same (rem H p) H'→ThU H' (.ref G0):=fun s=>((tg.out.1.parts t _ _ _ _ rfl g1).2.2.1).kp (Kp.same s)
  have gdS:∀{H':Hp},Same (rem H p) H'→SigP H' (.ref S) cs:=fun s=>⟨S,xs,rfl,s _ _ g2,(g3.kp (Kp.same s)).p,tg.nd,tg.c2,tg.c6⟩
  have gdF:∀{H':Hp},Same (rem H p) H'→UnlP H' (.ref F0) (sgs cs) fs:=fun s=>⟨F0,rfl,s _ _ g4,tg.fnd,tg.fsub⟩
  have gdG:∀{H':Hp},Same (rem H p) H'→UnlP H' (.ref G0) (prs (sgs cs)) ps:=fun s=>⟨G0,rfl,s _ _ g5,tg.pnd,tg.psub⟩
  have KS:Same (rem H p) (rem H p):=Same.refl _
  have B100:∀m:Nat,m≤2000→m < big:=fun m h=>sm2001 m (by omega)
  refine ⟨_,rfl,t,_,rfl,SqT.of (rem_same _ _ (KS _ _ g1)),rfl,_,_,rfl,_,_,rfl,_,_,rfl,_,_,rfl,rfl,?_⟩
  refine seq_cut fun NX kx=>?_
  refine kx [some (.ref t),some (.ref p),some (.ref S),some (.ref F0),some (.ref G0),some (.int lg),none,none,none,none,none,none,none] _ ?_
  clear kx NX
  refine seq_cut fun NX kx=>?_
  refine ⟨_,rfl,S,rfl,⟨_,SqL.of (rem_same _ _ (KS _ _ g2))⟩,?_⟩
  (intro N g_N; generalize hEq:upd _ N _=A1; refine newC hEq g_N ?_; clear hEq; intro X1 e_N o_N)
  clear o_N
  have f_N:=none_back KS (rem_none (p:=p) g_N)
  refine lr_list (K:=K) (S:=S) (xs:=xs) (fun i σ H'=>(∃v,σ=[v])∧Same H H'∧H' N=some (.lst (txs (sgs (cs.take i))))) ⟨⟨_,rfl⟩,X1,e_N⟩ (fun i σ H' z=>SqL.of (z.2.1 _ _ (rem_same _ _ g2))) ?_ ?_
  ·rintro i x σ H' C hi ⟨⟨v,rfl⟩,s',hN⟩ nx
   obtain ⟨c,hc,row⟩:=g3.at hi
   obtain ⟨a,pp,la,rfl,ha,_⟩:=row.ex
   refine ⟨_,rfl,a,_,_,_,rfl,rfl,SqT.of (s' _ _ (rem_same _ _ ha)),rfl,_,hN,?_,nx _ _ ⟨⟨_,rfl⟩,fun b o hb=>?_,?_⟩⟩
   ·rw [txs_len,sgs_len,List.length_take]
    exact Nat.lt_of_le_of_lt (show min i cs.length≤6 by omega) (by decide)
   ·rw [upd_ne (ne_of_none hb g_N)]; exact s' b o hb
   ·have:txs (sgs (cs.take i)) ++ [V.str (sg1 c)]=txs (sgs (cs.take (i + 1))):=by
     rw [List.take_add_one,hc,sgs_append,txs_app]; rfl
    rw [← this]; exact upd_same
  rintro σ0 A2 ⟨_,X2,hN⟩
  rw [List.take_of_length_le (by omega)] at hN
  have r_N:rem A2 p N=some (.lst (txs (sgs cs))):=(rem_ne (sr.ne g_N)).trans hN
  replace sr:=sr.same X2
  replace KS:=KS.trans (rem_mono (S:=p) X2)
  clear X1 X2 e_N hN g_N
  refine kx [some (.ref t),some (.ref p),some (.ref S),some (.ref F0),some (.ref G0),some (.int lg),some (.ref N),none,none,none,none,none,none] _ ?_
  clear kx NX
  refine ⟨_,rfl,p,_,rfl,sr,(by show (0:Int) < 6; decide),B100 6 (by decide),fun z_d6 A3 z0_d6 zm_d6 sr3 o3=>?_⟩
  obtain ⟨d6,rfl⟩:=Int.eq_ofNat_of_zero_le z0_d6
  have h_d6:d6 < 6:=by omega
  have Y:=rem_eqS o3
  replace r_N:=Y _ _ r_N
  replace KS:=KS.trans Y
  replace sr:=sr3
  clear o3 Y z0_d6 zm_d6
  refine ⟨rfl,_,rfl,ite2 (fun _=>?_) (fun _=>?_)⟩
  ·skip
   refine seq_cut fun NX kx=>?_
   have its:∀y∈([]:List V),IK (rem A3 p) y:=nofun
   replace its:=all_snoc its (y:=V.non) (ik_no (.non) (fun a xs e=>by cases e))
   replace its:=all_snoc its (y:=V.int 5) (ik_no (.int _) (fun a xs e=>by cases e))
   replace its:=all_snoc its (y:=V.bl true) (ik_no (.bl _) (fun a xs e=>by cases e))
   replace its:=all_snoc its (y:=V.str "") (ik_no (.str _) (fun a xs e=>by cases e))
   replace its:=all_snoc its (y:=V.str "ab") (ik_no (.str _) (fun a xs e=>by cases e))
   refine ⟨_,rfl,t,_,rfl,.inr (SqT.of (rem_same _ _ (KS _ _ g1))),?_⟩
   (intro a1 g_a1; generalize hEq:upd _ a1 _=A4; refine newC hEq g_a1 ?_; clear hEq; intro X e_a1 o_a1)
   clear o_a1
   have n_a1:=sr.ne g_a1
   have f_a1:=none_back KS (rem_none (p:=p) g_a1)
   replace sr:=sr.same X
   have Y:=rem_mono (S:=p) X
   have r_a1:rem A4 p a1=some _:=(rem_ne n_a1).trans e_a1
   replace r_N:=Y _ _ r_N
   replace KS:=KS.trans Y
   replace its:=fun y h=>(IK.same (its y h) Y)
   clear X g_a1 n_a1 e_a1 Y
   replace its:=all_snoc its (y:=V.ref a1) (ik_no (.lst r_a1) (notup_lst r_a1))
   refine ⟨_,rfl,_,rfl,t,_,rfl,SqT.of (rem_same _ _ (KS _ _ g1)),(by show ¬(0=0∧3=4); decide),?_⟩
   (intro a2 g_a2; generalize hEq:upd _ a2 _=A5; refine newC hEq g_a2 ?_; clear hEq; intro X e_a2 o_a2)
   clear o_a2
   have n_a2:=sr.ne g_a2
   have f_a2:=none_back KS (rem_none (p:=p) g_a2)
   replace sr:=sr.same X
   have Y:=rem_mono (S:=p) X
   have r_a2:rem A5 p a2=some _:=(rem_ne n_a2).trans e_a2
   replace r_N:=Y _ _ r_N
   replace r_a1:=Y _ _ r_a1
   replace KS:=KS.trans Y
   replace its:=fun y h=>(IK.same (its y h) Y)
   clear X g_a2 n_a2 e_a2 Y
   replace its:=all_snoc its (y:=V.ref a2) (ik_no (.tup r_a2) (notup_len r_a2 (show (3:Nat)≠4 by decide)))
   refine ⟨_,rfl,s1,?_⟩
   (intro b3 g_b3; generalize hEq:upd _ b3 _=A6; refine newC hEq g_b3 ?_; clear hEq; intro X e_b3 o_b3)
   clear o_b3
   have n_b3:=sr.ne g_b3
   have f_b3:=none_back KS (rem_none (p:=p) g_b3)
   replace sr:=sr.same X
   have Y:=rem_mono (S:=p) X
   have r_b3:rem A6 p b3=some _:=(rem_ne n_b3).trans e_b3
   replace r_N:=Y _ _ r_N
   replace r_a1:=Y _ _ r_a1
   replace r_a2:=Y _ _ r_a2
   replace KS:=KS.trans Y
   replace its:=fun y h=>(IK.same (its y h) Y)
   clear X g_b3 n_b3 e_b3 Y
   refine ⟨t,b3,_,_,rfl,rfl,SqT.of (rem_same _ _ (KS _ _ g1)),SqT.of (rem_same _ _ r_b3),nofun,sz (show 4 + 1≤100 by decide),nofun,fun _=>?_⟩
   (intro a3 g_a3; generalize hEq:upd _ a3 _=A7; refine newC hEq g_a3 ?_; clear hEq; intro X e_a3 o_a3)
   clear o_a3
   have n_a3:=sr.ne g_a3
   have f_a3:=none_back KS (rem_none (p:=p) g_a3)
   replace sr:=sr.same X
   have Y:=rem_mono (S:=p) X
   have r_a3:rem A7 p a3=some _:=(rem_ne n_a3).trans e_a3
   replace r_N:=Y _ _ r_N
   replace r_a1:=Y _ _ r_a1
   replace r_a2:=Y _ _ r_a2
   replace r_b3:=Y _ _ r_b3
   replace KS:=KS.trans Y
   replace its:=fun y h=>(IK.same (its y h) Y)
   clear X g_a3 n_a3 e_a3 Y
   replace its:=all_snoc its (y:=V.ref a3) (ik_no (.tup r_a3) (notup_len r_a3 (show (5:Nat)≠4 by decide)))
   refine ⟨Nat.zero_le _,?_⟩
   (intro a4 g_a4; generalize hEq:upd _ a4 _=A8; refine newC hEq g_a4 ?_; clear hEq; intro X e_a4 o_a4)
   clear o_a4
   have n_a4:=sr.ne g_a4
   have f_a4:=none_back KS (rem_none (p:=p) g_a4)
   replace sr:=sr.same X
   have Y:=rem_mono (S:=p) X
   have r_a4:rem A8 p a4=some _:=(rem_ne n_a4).trans e_a4
   replace r_N:=Y _ _ r_N
   replace r_a1:=Y _ _ r_a1
   replace r_a2:=Y _ _ r_a2
   replace r_b3:=Y _ _ r_b3
   replace r_a3:=Y _ _ r_a3
   replace KS:=KS.trans Y
   replace its:=fun y h=>(IK.same (its y h) Y)
   clear X g_a4 n_a4 e_a4 Y
   replace its:=all_snoc its (y:=V.ref a4) (ik_no (.tup r_a4) (notup_len r_a4 (show (0:Nat)≠4 by decide)))
   (intro a5 g_a5; generalize hEq:upd _ a5 _=A9; refine newC hEq g_a5 ?_; clear hEq; intro X e_a5 o_a5)
   clear o_a5
   have n_a5:=sr.ne g_a5
   have f_a5:=none_back KS (rem_none (p:=p) g_a5)
   replace sr:=sr.same X
   have Y:=rem_mono (S:=p) X
   have r_a5:rem A9 p a5=some _:=(rem_ne n_a5).trans e_a5
   replace r_N:=Y _ _ r_N
   replace r_a1:=Y _ _ r_a1
   replace r_a2:=Y _ _ r_a2
   replace r_b3:=Y _ _ r_b3
   replace r_a3:=Y _ _ r_a3
   replace r_a4:=Y _ _ r_a4
   replace KS:=KS.trans Y
   replace its:=fun y h=>(IK.same (its y h) Y)
   clear X g_a5 n_a5 e_a5 Y
   replace its:=all_snoc its (y:=V.ref a5) (ik_no (.dK r_a5) (notup_dct r_a5))
   refine ⟨_,rfl,s1,?_⟩
   (intro a6 g_a6; generalize hEq:upd _ a6 _=A10; refine newC hEq g_a6 ?_; clear hEq; intro X e_a6 o_a6)
   clear o_a6
   have n_a6:=sr.ne g_a6
   have f_a6:=none_back KS (rem_none (p:=p) g_a6)
   replace sr:=sr.same X
   have Y:=rem_mono (S:=p) X
   have r_a6:rem A10 p a6=some _:=(rem_ne n_a6).trans e_a6
   replace r_N:=Y _ _ r_N
   replace r_a1:=Y _ _ r_a1
   replace r_a2:=Y _ _ r_a2
   replace r_b3:=Y _ _ r_b3
   replace r_a3:=Y _ _ r_a3
   replace r_a4:=Y _ _ r_a4
   replace r_a5:=Y _ _ r_a5
   replace KS:=KS.trans Y
   replace its:=fun y h=>(IK.same (its y h) Y)
   clear X g_a6 n_a6 e_a6 Y
   replace its:=all_snoc its (y:=V.ref a6) (ik_no (.tup r_a6) (notup_len r_a6 (show (1:Nat)≠4 by decide)))
   refine ⟨_,rfl,s1,?_⟩
   (intro a7 g_a7; generalize hEq:upd _ a7 _=A11; refine newC hEq g_a7 ?_; clear hEq; intro X e_a7 o_a7)
   clear o_a7
   have n_a7:=sr.ne g_a7
   have f_a7:=none_back KS (rem_none (p:=p) g_a7)
   replace sr:=sr.same X
   have Y:=rem_mono (S:=p) X
   have r_a7:rem A11 p a7=some _:=(rem_ne n_a7).trans e_a7
   replace r_N:=Y _ _ r_N
   replace r_a1:=Y _ _ r_a1
   replace r_a2:=Y _ _ r_a2
   replace r_b3:=Y _ _ r_b3
   replace r_a3:=Y _ _ r_a3
   replace r_a4:=Y _ _ r_a4
   replace r_a5:=Y _ _ r_a5
   replace r_a6:=Y _ _ r_a6
   replace KS:=KS.trans Y
   replace its:=fun y h=>(IK.same (its y h) Y)
   clear X g_a7 n_a7 e_a7 Y
   replace its:=all_snoc its (y:=V.ref a7) (ik_no (.lst r_a7) (notup_lst r_a7))
   clear r_a1
   clear r_a2
   clear r_b3
   clear r_a3
   clear r_a4
   clear r_a5
   clear r_a6
   clear r_a7
   clear r_N
   refine ⟨sz (show 12≤100 by decide),?_⟩
   (intro L g_L; generalize hEq:upd _ L _=A12; refine newC hEq g_L ?_; clear hEq; intro X e_L o_L)
   clear o_L
   have n_L:=sr.ne g_L
   have f_L:=none_back KS (rem_none (p:=p) g_L)
   replace sr:=sr.same X
   have Y:=rem_mono (S:=p) X
   have r_L:rem A12 p L=some _:=(rem_ne n_L).trans e_L
   replace KS:=KS.trans Y
   replace its:=fun y h=>(IK.same (its y h) Y)
   clear X g_L n_L e_L Y
   refine kx [some (.ref t),some (.ref p),some (.ref S),some (.ref F0),some (.ref G0),some (.int lg),some (.ref N),some (.ref L),none,none,none,none,none] _ ?_
   clear kx NX
   have yl:([V.non,V.int 5,V.bl true,V.str "",V.str "ab",V.ref a1,V.ref a2,V.ref a3,V.ref a4,V.ref a5,V.ref a6,V.ref a7]:List V).length=12:=rfl
   replace its:∀y∈([V.non,V.int 5,V.bl true,V.str "",V.str "ab",V.ref a1,V.ref a2,V.ref a3,V.ref a4,V.ref a5,V.ref a6,V.ref a7]:List V),IK (rem A12 p) y:=its
   have r_L2:rem A12 p L=some (.lst ([V.non,V.int 5,V.bl true,V.str "",V.str "ab",V.ref a1,V.ref a2,V.ref a3,V.ref a4,V.ref a5,V.ref a6,V.ref a7]:List V)):=r_L
   clear r_L
   generalize ([V.non,V.int 5,V.bl true,V.str "",V.str "ab",V.ref a1,V.ref a2,V.ref a3,V.ref a4,V.ref a5,V.ref a6,V.ref a7]:List V)=ys at yl its r_L2
   refine ⟨_,rfl,_,rfl,p,_,rfl,sr,(by show (0:Int) < 12; decide),B100 12 (by decide),fun z_w A13 z0_w zm_w sr3 o3=>?_⟩
   obtain ⟨w,rfl⟩:=Int.eq_ofNat_of_zero_le z0_w
   have h_w:w < 12:=by omega
   have Y:=rem_eqS o3
   replace r_L2:=Y _ _ r_L2
   replace KS:=KS.trans Y
   replace its:=fun y h=>(IK.same (its y h) Y)
   replace sr:=sr3
   clear o3 Y z0_w zm_w
   have ey:ys[w]? = some (ys[w]'(by omega)):=List.getElem?_eq_getElem _
   generalize ys[w]'(by omega)=yy at ey
   refine ⟨L,_,_,_,rfl,rfl,SqL.of (rem_same _ _ r_L2),atI_nat ey,s2,?_⟩
   have ity:=its _ (List.mem_of_getElem? ey)
   clear its
   (intro r g_r; generalize hEq:upd _ r _=A14; refine newC hEq g_r ?_; clear hEq; intro X e_r o_r)
   clear o_r
   have n_r:=sr.ne g_r
   have f_r:=none_back KS (rem_none (p:=p) g_r)
   replace sr:=sr.same X
   have Y:=rem_mono (S:=p) X
   have r_r:rem A14 p r=some _:=(rem_ne n_r).trans e_r
   replace r_L2:=Y _ _ r_L2
   replace KS:=KS.trans Y
   replace ity:=IK.same ity Y
   clear X g_r n_r e_r Y
   exact q r yy .non _ sr KS r_r ity.1 ity.2
  ·skip
   refine seq_cut fun NX kx=>?_
   refine kx [some (.ref t),some (.ref p),some (.ref S),some (.ref F0),some (.ref G0),some (.int lg),some (.ref N),none,none,none,none,none,none] _ ?_
   clear kx NX
   refine seq_cut fun NX kx=>?_
   refine ⟨_,rfl,_,rfl,_,rfl,_,rfl,s4,?_⟩
   (intro M g_M; generalize hEq:upd _ M _=A301; refine newC hEq g_M ?_; clear hEq; intro X e_M o_M)
   clear o_M
   have n_M:=sr.ne g_M
   have f_M:=none_back KS (rem_none (p:=p) g_M)
   replace sr:=sr.same X
   have Y:=rem_mono (S:=p) X
   have r_M:rem A301 p M=some _:=(rem_ne n_M).trans e_M
   replace r_N:=Y _ _ r_N
   replace KS:=KS.trans Y
   clear X g_M n_M e_M Y
   refine kx [some (.ref t),some (.ref p),some (.ref S),some (.ref F0),some (.ref G0),some (.int lg),some (.ref N),none,some (.ref M),none,none,none,none] _ ?_
   clear kx NX
   refine seq_cut fun NX kx=>?_
   refine ⟨_,rfl,p,_,rfl,sr,(by show (0:Int) < 4; decide),B100 4 (by decide),fun z_first A302 z0_first zm_first sr3 o3=>?_⟩
   obtain ⟨first,rfl⟩:=Int.eq_ofNat_of_zero_le z0_first
   have h_first:first < 4:=by omega
   have Y:=rem_eqS o3
   replace r_N:=Y _ _ r_N
   replace r_M:=Y _ _ r_M
   replace KS:=KS.trans Y
   replace sr:=sr3
   clear o3 Y z0_first zm_first
   refine kx [some (.ref t),some (.ref p),some (.ref S),some (.ref F0),some (.ref G0),some (.int lg),some (.ref N),none,some (.ref M),some (.int first),none,none,none] _ ?_
   clear kx NX
   refine seq_cut fun NX kx=>?_
   have its:∀y∈([]:List V),BL (rem A302 p) y:=nofun
   replace its:=all_snoc its (y:=V.int 0) (⟨.int _,by decide⟩)
   replace its:=all_snoc its (y:=V.int 9) (⟨.int _,by decide⟩)
   refine ⟨_,rfl,?_⟩
   replace its:=all_snoc its (y:=V.int (-1)) (⟨.int _,by decide⟩)
   refine ⟨_,_,rfl,rfl,⟨by decide,by decide,by decide⟩,?_⟩
   replace its:=all_snoc its (y:=V.int (10 ^ (30:Int).toNat)) (⟨.int _,by decide +kernel⟩)
   replace its:=all_snoc its (y:=V.bl true) (⟨.bl _,by decide⟩)
   replace its:=all_snoc its (y:=V.non) (⟨.non,by decide⟩)
   replace its:=all_snoc its (y:=V.str "3") (⟨.str _,by decide⟩)
   refine ⟨s1,?_⟩
   (intro b1 g_b1; generalize hEq:upd _ b1 _=A303; refine newC hEq g_b1 ?_; clear hEq; intro X e_b1 o_b1)
   clear o_b1
   have n_b1:=sr.ne g_b1
   have f_b1:=none_back KS (rem_none (p:=p) g_b1)
   replace sr:=sr.same X
   have Y:=rem_mono (S:=p) X
   have r_b1:rem A303 p b1=some _:=(rem_ne n_b1).trans e_b1
   replace r_N:=Y _ _ r_N
   replace r_M:=Y _ _ r_M
   replace KS:=KS.trans Y
   replace its:=fun y h=>(BL.same (its y h) Y)
   clear X g_b1 n_b1 e_b1 Y
   replace its:=all_snoc its (y:=V.ref b1) (⟨.lst r_b1,rfl⟩)
   refine ⟨s1,?_⟩
   (intro b2 g_b2; generalize hEq:upd _ b2 _=A304; refine newC hEq g_b2 ?_; clear hEq; intro X e_b2 o_b2)
   clear o_b2
   have n_b2:=sr.ne g_b2
   have f_b2:=none_back KS (rem_none (p:=p) g_b2)
   replace sr:=sr.same X
   have Y:=rem_mono (S:=p) X
   have r_b2:rem A304 p b2=some _:=(rem_ne n_b2).trans e_b2
   replace r_N:=Y _ _ r_N
   replace r_M:=Y _ _ r_M
   replace r_b1:=Y _ _ r_b1
   replace KS:=KS.trans Y
   replace its:=fun y h=>(BL.same (its y h) Y)
   clear X g_b2 n_b2 e_b2 Y
   replace its:=all_snoc its (y:=V.ref b2) (⟨.tup r_b2,rfl⟩)
   clear r_b1
   clear r_b2
   refine ⟨sz (show 9≤100 by decide),?_⟩
   (intro L g_L; generalize hEq:upd _ L _=A305; refine newC hEq g_L ?_; clear hEq; intro X e_L o_L)
   clear o_L
   have n_L:=sr.ne g_L
   have f_L:=none_back KS (rem_none (p:=p) g_L)
   replace sr:=sr.same X
   have Y:=rem_mono (S:=p) X
   have r_L:rem A305 p L=some _:=(rem_ne n_L).trans e_L
   replace r_N:=Y _ _ r_N
   replace r_M:=Y _ _ r_M
   replace KS:=KS.trans Y
   replace its:=fun y h=>(BL.same (its y h) Y)
   clear X g_L n_L e_L Y
   have yl:([V.int 0,V.int 9,V.int (-1),V.int (10 ^ (30:Int).toNat),V.bl true,V.non,V.str "3",V.ref b1,V.ref b2]:List V).length=9:=rfl
   replace its:∀y∈([V.int 0,V.int 9,V.int (-1),V.int (10 ^ (30:Int).toNat),V.bl true,V.non,V.str "3",V.ref b1,V.ref b2]:List V),BL (rem A305 p) y:=its
   have r_L2:rem A305 p L=some (.lst ([V.int 0,V.int 9,V.int (-1),V.int (10 ^ (30:Int).toNat),V.bl true,V.non,V.str "3",V.ref b1,V.ref b2]:List V)):=r_L
   clear r_L
   generalize ([V.int 0,V.int 9,V.int (-1),V.int (10 ^ (30:Int).toNat),V.bl true,V.non,V.str "3",V.ref b1,V.ref b2]:List V)=ys at yl its r_L2
   refine ⟨_,rfl,p,_,rfl,sr,(by show (0:Int) < 9; decide),B100 9 (by decide),fun z_w A306 z0_w zm_w sr3 o3=>?_⟩
   obtain ⟨w,rfl⟩:=Int.eq_ofNat_of_zero_le z0_w
   have h_w:w < 9:=by omega
   have Y:=rem_eqS o3
   replace r_N:=Y _ _ r_N
   replace r_M:=Y _ _ r_M
   replace r_L2:=Y _ _ r_L2
   replace KS:=KS.trans Y
   replace its:=fun y h=>(BL.same (its y h) Y)
   replace sr:=sr3
   clear o3 Y z0_w zm_w
   have ey:ys[w]? = some (ys[w]'(by omega)):=List.getElem?_eq_getElem _
   generalize ys[w]'(by omega)=x4 at ey
   refine ⟨L,_,_,_,rfl,rfl,SqL.of (rem_same _ _ r_L2),atI_nat ey,?_⟩
   have b_4:=its _ (List.mem_of_getElem? ey)
   clear its
   clear r_L2
   refine kx [some (.ref t),some (.ref p),some (.ref S),some (.ref F0),some (.ref G0),some (.int lg),some (.ref N),none,some (.ref M),some (.int first),some (x4),none,none] _ ?_
   clear kx NX
   refine seq_cut fun NX kx=>?_
   refine ⟨_,rfl,_,rfl,S,p,xs,cs,rfl,sr,KS _ _ g2,g3.kp (Kp.same KS),c2,c6,fun x1 A307 sr3 Y f_x1 b_x1=>?_⟩
   replace sr:=sr3
   have m_x1:∀a,x1 = .ref a→a≠M:=fun a ea z=>by have:=f_x1 a ea; rw [z,r_M] at this; cases this
   replace r_N:=Y _ _ r_N
   replace r_M:=Y _ _ r_M
   replace KS:=KS.trans Y
   replace b_4:=BL.same b_4 Y
   clear sr3 Y f_x1
   refine ⟨_,rfl,_,rfl,N,p,cs,rfl,sr,r_N,al,c2,c6,fun x2 A308 sr3 Y f_x2 b_x2=>?_⟩
   replace sr:=sr3
   have m_x2:∀a,x2 = .ref a→a≠M:=fun a ea z=>by have:=f_x2 a ea; rw [z,r_M] at this; cases this
   replace r_N:=Y _ _ r_N
   replace r_M:=Y _ _ r_M
   replace KS:=KS.trans Y
   replace b_4:=BL.same b_4 Y
   replace b_x1:=BadS.same b_x1 Y
   clear sr3 Y f_x2
   refine ⟨_,rfl,_,rfl,N,p,cs,rfl,sr,r_N,al,c2,c6,fun x3 A309 sr3 Y f_x3 b_x3=>?_⟩
   replace sr:=sr3
   have m_x3:∀a,x3 = .ref a→a≠M:=fun a ea z=>by have:=f_x3 a ea; rw [z,r_M] at this; cases this
   replace r_N:=Y _ _ r_N
   replace r_M:=Y _ _ r_M
   replace KS:=KS.trans Y
   replace b_4:=BL.same b_4 Y
   replace b_x1:=BadS.same b_x1 Y
   replace b_x2:=BadU.same b_x2 Y
   clear sr3 Y f_x3
   refine ⟨_,rfl,s4,?_⟩
   (intro Bd g_Bd; generalize hEq:upd _ Bd _=A310; refine newC hEq g_Bd ?_; clear hEq; intro X e_Bd o_Bd)
   clear o_Bd
   have n_BdM:Bd≠M:=fun z=>by have h:=rem_same _ _ r_M; rw [← z,g_Bd] at h; cases h
   have n_Bd:=sr.ne g_Bd
   have f_Bd:=none_back KS (rem_none (p:=p) g_Bd)
   replace sr:=sr.same X
   have Y:=rem_mono (S:=p) X
   have r_Bd:rem A310 p Bd=some _:=(rem_ne n_Bd).trans e_Bd
   replace r_N:=Y _ _ r_N
   replace r_M:=Y _ _ r_M
   replace KS:=KS.trans Y
   replace b_4:=BL.same b_4 Y
   replace b_x1:=BadS.same b_x1 Y
   replace b_x2:=BadU.same b_x2 Y
   replace b_x3:=BadU.same b_x3 Y
   clear X g_Bd n_Bd e_Bd Y
   refine kx [some (.ref t),some (.ref p),some (.ref S),some (.ref F0),some (.ref G0),some (.int lg),some (.ref N),none,some (.ref M),some (.int first),some (x4),some (.ref Bd),none] _ ?_
   clear kx NX
   refine seq_cut fun NX kx=>?_
   have n_M:M≠p:=(fun (z:M=p)=>absurd (z ▸ r_M:rem A310 p p=_) (by unfold rem; rw [if_pos rfl]; nofun))
   generalize hgd:([V.ref S,V.ref F0,V.ref G0,V.int lg]:List V)=gd at r_M
   generalize hbd:([x1,x2,x3,x4]:List V)=bd at r_Bd
   have gdl:gd.length=4:=by rw [← hgd]; rfl
   have bdl:bd.length=4:=by rw [← hbd]; rfl
   refine ⟨4,rfl,by decide,by decide,for_range (lo:=0) (n:=4) (fun i σ H'=>(∃v,σ=[some (.ref t),some (.ref p),some (.ref S),some (.ref F0),some (.ref G0),some (.int lg),some (.ref N),none,some (.ref M),some (.int first),some (x4),some (.ref Bd),v])∧Src H' p∧Same (rem (rem A310 p) M) (rem (rem H' p) M)∧∃ms,rem H' p M=some (.lst ms)∧ms.length=4∧
     (∀q,q < 4→ms[q]? = gd[q]?∨ms[q]? = bd[q]?)∧(∀q,q < first→ms[q]? = gd[q]?)∧(∀q,i≤q→ms[q]? = gd[q]?)∧(first < i→ms[first]? = bd[first]?))
    ⟨⟨_,rfl⟩,sr,Same.refl _,gd,r_M,gdl,fun q _=>.inl rfl,fun q _=>rfl,fun q _=>rfl,fun z=>absurd z (Nat.not_lt_zero _)⟩ ?_ ?_⟩
   ·rintro i σ H' hi ⟨⟨v,rfl⟩,sr',k',ms,hM,ml,alt,lo,hi',at_⟩
    rw [show (0:Int) + ((i:Nat):Int)=(i:Int) from Int.zero_add _]
    have asg:∀H1,Src H1 p→Same (rem (rem A310 p) M) (rem (rem H1 p) M)→rem H1 p M=some (.lst ms)→first≤i→
      (∃bv,bd[i]? = some bv∧rem H1 p Bd=some (.lst bd)∧(Src (upd H1 M (.lst (ms.set i bv))) p∧Same (rem (rem A310 p) M) (rem (rem (upd H1 M (.lst (ms.set i bv))) p) M)∧∃ms',rem (upd H1 M (.lst (ms.set i bv))) p M=some (.lst ms')∧ms'.length=4∧
       (∀q,q < 4→ms'[q]? = gd[q]?∨ms'[q]? = bd[q]?)∧(∀q,q < first→ms'[q]? = gd[q]?)∧(∀q,i + 1≤q→ms'[q]? = gd[q]?)∧(first < i + 1→ms'[first]? = bd[first]?))):=fun H1 sr1 k1 hM1 fi=>by
     have eb:bd[i]? = some (bd[i]'(by omega)):=List.getElem?_eq_getElem _
     generalize bd[i]'(by omega)=bv at eb
     refine ⟨bv,eb,?_,?_,fun b o hb=>rem2_upd _ _ (k1 b o hb),ms.set i bv,by rw [rem_ne n_M]; exact upd_same,by rw [List.length_set]; exact ml,fun q hq=>?_,fun q hq=>?_,fun q hq=>?_,fun hf=>?_⟩
     ·exact rem_same _ _ (k1 Bd _ (by rw [rem_ne n_BdM]; exact r_Bd))
     ·exact sr1.put n_M
     ·rw [List.getElem?_set]
      split
      ·rename_i e
       rw [if_pos (by omega)]
       exact .inr (by rw [← e,eb])
      ·exact alt q hq
     ·rw [List.getElem?_set,if_neg (by omega)]; exact lo q hq
     ·rw [List.getElem?_set,if_neg (by omega)]; exact hi' q (by omega)
     ·rw [List.getElem?_set]
      split
      ·rename_i e
       rw [if_pos (by omega),← e,eb]
      ·exact at_ (by omega)
    have skip:∀H1,Src H1 p→Same (rem (rem A310 p) M) (rem (rem H1 p) M)→rem H1 p M=some (.lst ms)→i≠first→Src H1 p∧Same (rem (rem A310 p) M) (rem (rem H1 p) M)∧∃ms',rem H1 p M=some (.lst ms')∧ms'.length=4∧
       (∀q,q < 4→ms'[q]? = gd[q]?∨ms'[q]? = bd[q]?)∧(∀q,q < first→ms'[q]? = gd[q]?)∧(∀q,i + 1≤q→ms'[q]? = gd[q]?)∧(first < i + 1→ms'[first]? = bd[first]?):=fun H1 s1 k1 h1 n=>
     ⟨s1,k1,ms,h1,ml,alt,lo,fun q hq=>hi' q (by omega),fun hf=>at_ (by omega)⟩
    refine ⟨_,rfl,_,rfl,rfl,_,rfl,ite2 (fun e=>?_) (fun ne=>?_)⟩
    ·have ei:i=first:=by
      have:=of_decide_eq_true e
      injection this with this; omega
     obtain ⟨bv,e1,e2,e3⟩:=asg H' sr' k' hM (by omega)
     exact iteT ⟨_,rfl,_,rfl,Bd,_,_,_,rfl,rfl,SqL.of (rem_same _ _ e2),atI_nat e1,_,rfl,_,rfl,M,ms,_,i,rfl,rfl,rem_same _ _ hM,ixN_nat (by omega),⟨_,rfl⟩,e3⟩
    ·have ni:i≠first:=fun z=>ne (decide_eq_true (by rw [z]))
     refine ⟨_,rfl,_,rfl,_,_,rfl,rfl,_,rfl,ite2 (fun gt=>?_) (fun _=>?_)⟩
     ·have gt:first≤i:=by have:=of_decide_eq_true gt; omega
      refine ⟨_,rfl,p,_,rfl,sr',(by show (0:Int) < 3; decide),B100 3 (by decide),fun d H1 d0 dm sr1 o1=>⟨rfl,_,rfl,ite2 (fun _=>?_) (fun _=>?_)⟩⟩
      ·obtain ⟨bv,e1,e2,e3⟩:=asg H1 sr1 (Same.trans k' (rem_mono (rem_eqS o1))) (rem_eqS o1 _ _ hM) gt
       exact ⟨_,rfl,_,rfl,Bd,_,_,_,rfl,rfl,SqL.of (rem_same _ _ e2),atI_nat e1,_,rfl,_,rfl,M,ms,_,i,rfl,rfl,rem_same _ _ (rem_eqS o1 _ _ hM),ixN_nat (by omega),⟨_,rfl⟩,e3⟩
      ·exact ⟨⟨_,rfl⟩,skip H1 sr1 (Same.trans k' (rem_mono (rem_eqS o1))) (rem_eqS o1 _ _ hM) ni⟩
     ·exact iteF ⟨⟨_,rfl⟩,skip H' sr' k' hM ni⟩
   ·rintro σ H' ⟨⟨v,rfl⟩,sr',k',ms,hM,ml,alt,lo,_,at_⟩
    have mput:Put (rem A310 p) (rem H' p) M:=⟨fun b o n hb=>rem_same _ _ (k' b o (by rw [rem_ne n]; exact hb)),⟨_,r_M⟩,⟨_,hM⟩⟩
    have ks:Same (rem H p) (rem H' p):=fun b o hb=>mput.keep b o (fun z=>by rw [z,f_M] at hb; cases hb) (KS _ _ hb)
    refine kx [some (.ref t),some (.ref p),some (.ref S),some (.ref F0),some (.ref G0),some (.int lg),some (.ref N),none,some (.ref M),some (.int first),some (x4),some (.ref Bd),v] _ ?_
    clear kx NX
    refine ⟨_,rfl,M,ms,rfl,.inl ⟨SqL.of (rem_same _ _ hM),?_⟩⟩
    replace sr:=sr'
    replace KS:=ks
    replace KS:=ks
    replace b_x1:=mput.badS b_x1 m_x1
    replace b_x2:=mput.badU b_x2 m_x2
    replace b_x3:=mput.badU b_x3 m_x3
    replace b_4:BL (rem H' p) x4:=⟨mput.th b_4.1,b_4.2⟩
    have r_M2:=hM
    (intro T g_T; generalize hEq:upd _ T _=A311; refine newC hEq g_T ?_; clear hEq; intro X e_T o_T)
    clear o_T
    have n_T:=sr.ne g_T
    have f_T:=none_back KS (rem_none (p:=p) g_T)
    replace sr:=sr.same X
    have Y:=rem_mono (S:=p) X
    have r_T:rem A311 p T=some _:=(rem_ne n_T).trans e_T
    replace r_M2:=Y _ _ r_M2
    replace KS:=KS.trans Y
    replace b_x1:=BadS.same b_x1 Y
    replace b_x2:=BadU.same b_x2 Y
    replace b_x3:=BadU.same b_x3 Y
    replace b_4:=BL.same b_4 Y
    clear X g_T n_T e_T Y
    refine ⟨s4,?_⟩
    (intro Ls g_Ls; generalize hEq:upd _ Ls _=A312; refine newC hEq g_Ls ?_; clear hEq; intro X e_Ls o_Ls)
    clear o_Ls
    have n_Ls:=sr.ne g_Ls
    have f_Ls:=none_back KS (rem_none (p:=p) g_Ls)
    replace sr:=sr.same X
    have Y:=rem_mono (S:=p) X
    have r_Ls:rem A312 p Ls=some _:=(rem_ne n_Ls).trans e_Ls
    replace r_M2:=Y _ _ r_M2
    replace r_T:=Y _ _ r_T
    replace KS:=KS.trans Y
    replace b_x1:=BadS.same b_x1 Y
    replace b_x2:=BadU.same b_x2 Y
    replace b_x3:=BadU.same b_x3 Y
    replace b_4:=BL.same b_4 Y
    clear X g_Ls n_Ls e_Ls Y
    obtain ⟨tt,v,ev,ot⟩:=spoilt_out r_T ml h_first (thS KS) (thF KS) (thG KS) (gdS KS) (gdF KS) (gdG KS) b_x1 b_x2 b_x3 b_4 (by rw [hgd,hbd]; exact alt) (by rw [hgd]; exact lo) (by rw [hbd]; exact at_ h_first)
    refine ⟨_,rfl,Ls,_,_,_,rfl,rfl,SqL.of (rem_same _ _ r_Ls),atI_nat ev,s2,?_⟩
    (intro r g_r; generalize hEq:upd _ r _=A313; refine newC hEq g_r ?_; clear hEq; intro X e_r o_r)
    clear o_r
    have n_r:=sr.ne g_r
    have f_r:=none_back KS (rem_none (p:=p) g_r)
    replace sr:=sr.same X
    have Y:=rem_mono (S:=p) X
    have r_r:rem A313 p r=some _:=(rem_ne n_r).trans e_r
    replace r_M2:=Y _ _ r_M2
    replace r_T:=Y _ _ r_T
    replace r_Ls:=Y _ _ r_Ls
    replace KS:=KS.trans Y
    clear X g_r n_r e_r; have Y9:=Y
    exact q r (.ref T) v _ sr KS r_r (tt.kp (Kp.same Y9)) (outT_kp (Kp.same Y9) tt ot)
end
theorem tb_rem {H H':Hp} {p:Addr} (sr:Src H p) (s:Same (rem H p) (rem H' p)):TbK H H':=fun U t=>by
 obtain ⟨q,h,r⟩:=t
 have n:U≠p:=fun z=>by obtain ⟨a,d,e,_⟩:=sr.ex; rw [← z,h] at e; cases e
 exact ⟨q,rem_same _ _ (s _ _ (by rw [rem_ne n]; exact h)),r⟩
theorem same_rem {H0 H H':Hp} {p:Addr} (g:H0 p=none) (s0:Same H0 H) (s:Same (rem H p) (rem H' p)):Same H0 H':=fun b o hb=>rem_same _ _ (s b o (by rw [rem_ne (ne_of_none hb g)]; exact s0 _ _ hb))
theorem OutT.vs {H:Hp} {x v:V} (h:OutT H x (some v)):v = .non∨∃z,v = .str z∧z.length≤700:=by
 generalize hr:(some v:Option V)=r at h
 cases h with
 | kind h=>cases hr; exact .inl rfl
 | signs h n=>cases hr; exact .inr ⟨_,rfl,by decide⟩
 | firsts h g n=>cases hr; exact .inr ⟨_,rfl,by decide⟩
 | pairs h g gf n=>cases hr; exact .inr ⟨_,rfl,by decide⟩
 | longest h g gf gp n=>cases hr; exact .inr ⟨_,rfl,by decide⟩
 | good h g gf gp n=>cases hr
theorem kss {K:PySem.W.Frag}:PySem.W.kitOne K (.type "str") (.type "str")=some true:=by kernel_rfl
section
variable {P:Program} {w:World} {K:PySem.W.Frag} {mg:Str→Option Value} {base:Heap} {c:List Addr}
def spLaw (T1 T2:Addr) (K:PySem.W.Frag):Sp:=fun vs H Q _=>∃(a:Addr) (ns:List Int),vs=[.ref a]∧SqL K H a (ns.map V.int)∧ns.length≤63∧Tab T1 H∧Tab T2 H∧∀H',Q (.bl true) H'
theorem scLa:FnScope ["_law_script","_law_tongue_here","_law_kept","_law_k","_law_source_here","_law_thing","_law_due","_law_door","_law_found"] ["_law_script"] (defScope sLaw):=⟨rfl,rfl,rfl,by decide +kernel,rfl,by decide +kernel,by decide +kernel⟩
theorem ok_law {T1 T2 N:Addr} {f fT fC fCe fSo fD fSp fP fL:Addr} {fd fdT fdC fdCe fdSo fdD fdSp fdP fdL:FuncData} (F:FunG K "law" "law" sLaw .none f fd) (B:Bl mg)
  (GT:FnOk P w K mg base (CXE P w) 4 fT fdT ["_law_script","_law_base","_law_most","_law_longs"] (spTongue K)) (mT:mg "_law_tongue" = some (.ref fT)) (kT:PySem.W.keepIn K (.ref fT)=true) (bT:Binds K fdT ["_law_script","_law_base","_law_most","_law_longs"] [])
  (GC:FnOk P w K mg base (CXE P w) 1 fC fdC ["_law_tongue_here"] (spCopy K)) (mC:mg "_law_copy" = some (.ref fC)) (kC:PySem.W.keepIn K (.ref fC)=true) (bC:Binds K fdC ["_law_tongue_here"] [])
  (GCe:FnOk P w K mg base (CXE P w) 1 fCe fdCe ["_law_script","_law_k"] (spCell K)) (mCe:mg "_law_cell" = some (.ref fCe)) (kCe:PySem.W.keepIn K (.ref fCe)=true) (bCe:Binds K fdCe ["_law_script","_law_k"] [])
  (GSo:FnOk P w K mg base (CXE P w) 1 fSo fdSo ["_law_cell_here","_law_k"] spSource) (mSo:mg "_law_source" = some (.ref fSo)) (kSo:PySem.W.keepIn K (.ref fSo)=true) (bSo:Binds K fdSo ["_law_cell_here","_law_k"] [])
  (GD:FnOk P w K mg base (CXE P w) 1 fD fdD ["_law_source_here","_law_many"] spDraw) (mD:mg "_law_draw" = some (.ref fD)) (kD:PySem.W.keepIn K (.ref fD)=true) (bD:Binds K fdD ["_law_source_here","_law_many"] [])
  (GSp:FnOk P w K mg base (CXE P w) 3 fSp fdSp ["_law_tongue_here","_law_source_here"] spSpoilt) (mSp:mg "_law_spoilt" = some (.ref fSp)) (kSp:PySem.W.keepIn K (.ref fSp)=true) (bSp:Binds K fdSp ["_law_tongue_here","_law_source_here"] [])
  (GP:FnOk P w K mg base (CXE P w) 10 fP fdP ["_law_thing","_law_door"] (spPart T1 T2)) (mP:mg "_law_part" = some (.ref fP)) (kP:PySem.W.keepIn K (.ref fP)=true) (bP:Binds K fdP ["_law_thing","_law_door"] [])
  (GL:FnOk P w K mg base (CXE P w) 7 fL fdL ["thing"] (spLookG N T1 T2)) (mL:mg "look_at_tongue" = some (.ref fL)) (kL:PySem.W.keepIn K (.ref fL)=true) (bL:Binds K fdL ["thing"] []):FnOk P w K mg base (CXE P w) 11 f fd ["_law_script"] (spLaw T1 T2 K):=by
 refine F.zokN scLa (fun vs H Q E h=>?_) (fun cdv A outer s H vs Q E hr h=>?_)
 ·obtain ⟨a,ns,rfl,_⟩:=h
  rfl
 ·obtain ⟨a,ns,rfl,ha,hlen,t1,t2,q⟩:=h
  refine ⟨_,(zpss_cons (zps_set (i:=1) scLa.nd rfl (Or.inl rfl) (zpe_call GT (hr.mono (by decide)) (by rfl) mT kT bT .nil passE0 (zpac_n (zpv 0) (zpac_c zpe_int (zpac_c zpe_int (zpac_l (zpe_lst (zpac_c zpe_int (zpac_c zpe_int (zpac_c zpe_int (zpac_c zpe_int (zpac_c zpe_int zpa_nil)))))) zpa_nil))))))
   (zpss_cons (zps_set (i:=2) scLa.nd rfl (Or.inl rfl) (zpe_call GC (hr.mono (by decide)) (by rfl) mC kC bC .nil passE0 (zpac_n (zpv 1) zpa_nil)))
   (zpss_cons (zps_for PassesOwn.never rfl (zpi_range2 (by rfl) B.range (zpac_c zpe_int (zpac_f (zpe_callB (call_max2 rfl) (by rfl) B.max boot_max (zpac_c zpe_int (zpac_f (zpe_callB (call_min2 rfl) (by rfl) B.min boot_min (zpac_f (zpe_callB call_len_seq (by rfl) B.len PySem.boot_len (zpac_n (zpv 0) zpa_nil)) (zpac_c zpe_int zpa_nil))) zpa_nil))) zpa_nil))) (zpg_name (i:=3) scLa.nd rfl (Or.inl rfl))
     (zpss_cons (zps_set (i:=4) scLa.nd rfl (Or.inl rfl) (zpe_call GSo (hr.mono (by decide)) (by rfl) mSo kSo bSo .nil passE0 (zpac_f (zpe_call GCe (hr.mono (by decide)) (by rfl) mCe kCe bCe .nil passE0 (zpac_n (zpv 0) (zpac_n (zpv 3) zpa_nil))) (zpac_n (zpv 3) zpa_nil))))
   (zpss_cons (zps_asg (zpe_call GSp (hr.mono (by decide)) (by rfl) mSp kSp bSp .nil passE0 (zpac_n (zpv 1) (zpac_n (zpv 4) zpa_nil))) (zpg_tup rfl (zpgs_cons (zpg_name (i:=5) scLa.nd rfl (Or.inl rfl)) (zpgs_cons (zpg_name (i:=6) scLa.nd rfl (Or.inl rfl)) zpgs_nil))))
   (zpss_one (zps_for PassesOwn.never rfl (zpi_list (zpe_lst (zpac_c zpe_int (zpac_f (zpe_call GD (hr.mono (by decide)) (by rfl) mD kD bD .nil passE0 (zpac_n (zpv 4) (zpac_c zpe_int zpa_nil))) zpa_nil)))) (zpg_name (i:=7) scLa.nd rfl (Or.inl rfl))
       (zpss_cons (zps_set (i:=8) scLa.nd rfl (Or.inl rfl) (zpe_call GP hr (by rfl) mP kP bP .nil passE0 (zpac_n (zpv 5) (zpac_n (zpv 7) zpa_nil))))
   (zpss_one (zps_if (SPW.pt (zpw_or (zpt_cmpR (op_neD hr.units60) (zpv 8) (zpe_tup (zpac_n (zpv 6) zpa_nil)) (nomark _)) (zpw_or1 (SPW.pt (zpw_and (zpt_cmp (zpc_notN (zpv 6))) (zpw_and1 (zpt_not (zpt_val (zpe_callB call_isi (by rfl) B.isi boot_isi (zpac_s (zpe_ix ix_tup (zpv 8) zpe_int (fun _ _=>rfl)) (zpac_n (zpe_bltn (by rfl) B.str boot_str (v:=.ty "str") rfl) zpa_nil))))))))))) (zpss_one (zps_ret zpe_bl)) zpss_nil))))))))
   (zpss_one (zps_ret (zpe_and (zpe_cmp (zpc_isN (zpe_call GL (hr.mono (by decide)) (by rfl) mL kL bL .nil passE0 (zpac_n (zpv 1) zpa_nil)))) (zpe_one (zpe_cmpR (op_eqD hr.units60) (zpv 1) (zpv 2) (nomark _))))))))),?_⟩
  refine ⟨_,rfl,by show 5≤sizeLine; decide,fun lo hlo=>?_⟩
  have s3:=same_upd (o:=.lst [.int 8,.int 8,.int 8,.int 8,.int 8]) hlo
  refine ⟨a,lo,ns,[8,8,8,8,8],_,6,rfl,(Kp.same s3).seq ha,by omega,by omega,by decide,by decide,SqL.of upd_same,rfl,?_,fun t cs fs ps lg H4 ht0 tg s4=>?_⟩
  ·intro v hv
   have:v=8:=by simpa using hv
   omega
  have S4:=s3.trans s4
  obtain ⟨S,F',Pp,xs,g1,g2,g3,g4,g5⟩:=tg.ex
  refine ⟨_,rfl,t,S,F',Pp,_,xs,txs fs,txs ps,rfl,g1,g2,g4,g5,fun u S' F'' P' H5 nu nS nF nP e1 e2 e3 e4 s5=>?_⟩
  have S5:=S4.trans s5
  have tg5:=tg.kp (Kp.same s5)
  have a5:=t1.same S5
  have b5:=t2.same S5
  have ha5:SqL K H5 a (ns.map V.int):=S5.seq ha
  refine ⟨_,rfl,a,_,rfl,.inl ha5,_,_,rfl,_,_,rfl,2,_,rfl,?_,?_⟩
  ·rw [List.length_map]
   refine ⟨by decide,by decide,?_,?_⟩ <;> (split <;> (try split) <;> omega)
  have top:∀i:Nat,i < ((if (if (63:Int) < ((ns.map V.int).length:Nat) then (63:Int) else ((ns.map V.int).length:Nat)) > 10 then (if (63:Int) < ((ns.map V.int).length:Nat) then (63:Int) else ((ns.map V.int).length:Nat)) else 10) - 2:Int).toNat→i < 64:=by
   intro i hi
   split at hi <;> (try split at hi) <;> omega
  refine for_range (lo:=2) (fun i σ H'=>(∃v3 v4 v5 v6 v7 v8,σ=[some (.ref a),some (.ref t),some (.ref u),v3,v4,v5,v6,v7,v8])∧Kp H5 H'∧TbK H5 H') ⟨⟨_,_,_,_,_,_,rfl⟩,Kp.refl,TbK.refl⟩ ?_ ?_
  ·rintro i σ H6 hi ⟨⟨v3,v4,v5,v6,v7,v8,rfl⟩,k6,b6⟩
   have i64:=top i hi
   refine ⟨_,rfl,_,rfl,a,ns,2 + i,rfl,k6.seq ha5,by omega,fun z=>⟨_,rfl,z,2 + i,rfl,by omega,by omega,fun p H7 hp sr7 x7=>?_⟩⟩
   have s7:Same H6 H7:=fun c o e=>(x7 c (ne_of_none e hp)).trans e
   have R67:Same H6 (rem H7 p):=fun b o hb=>by rw [rem_ne (ne_of_none hb hp)]; exact s7 _ _ hb
   refine ⟨_,rfl,_,rfl,t,p,cs,fs,ps,lg,rfl,sr7,(tg5.kp k6).kp (Kp.same R67),fun r x v H8 sr8 s8 hr8 tx ox=>?_⟩
   have S68:=same_rem hp s7 s8
   have k8:=k6.trans (Kp.same S68)
   have b8:TbK H5 H8:=b6.trans ((TbK.refl.same s7).trans (tb_rem sr7 s8))
   refine ⟨r,_,rfl,SqT.of (rem_same _ _ hr8),rfl,_,_,rfl,_,_,rfl,rfl,?_⟩
   refine ⟨_,rfl,p,_,rfl,sr8,(by show (0:Int) < 8; decide),sm2001 8 (by decide),fun d H9 d0 d8 sr9 o9=>?_⟩
   have s9:Same (rem H8 p) (rem H9 p):=rem_eqS o9
   have S69:=same_rem hp s7 (Same.trans s8 s9)
   have tb9:TbK H8 H9:=tb_rem sr8 s9
   refine ⟨by show 2≤sizeLine; decide,?_⟩
   (intro dl gdl; generalize hEq:upd _ dl _=H10; refine newC hEq gdl ?_; clear hEq; intro S10 edl odl)
   have T10:ThT H10 x:=tx.kp (Kp.same (Same.trans s9 (Same.trans rem_same S10)))
   have O10:OutT H10 x (some v):=outT_kp (Kp.same (Same.trans s9 (Same.trans rem_same S10))) tx ox
   have k10:=k6.trans (Kp.same (S69.trans S10))
   have b10:TbK H5 H10:=(b8.trans tb9).same S10
   have vv:=ox.vs
   refine ⟨dl,rfl,⟨_,SqL.of edl⟩,for_list (K:=K) (a:=dl) (xs:=[V.int 8,V.int d])
    (fun j σ H'=>(∃v7 v8,σ=[some (.ref a),some (.ref t),some (.ref u),some (.int (2 + (i:Int))),some (.ref p),some x,some v,v7,v8])∧Kp H10 H'∧TbK H10 H')
    ⟨⟨_,_,rfl⟩,Kp.refl,TbK.refl⟩ ?_ ?_ ?_⟩
   ·rintro j σ H' _ ⟨_,k,_⟩
    exact SqL.of (k.lst edl)
   ·rintro j y σ H11 hy ⟨⟨v7,v8,rfl⟩,k11,b11⟩
    obtain ⟨dd,rfl,dd0,dd8⟩:∃dd:Int,y = .int dd∧0≤dd∧dd≤8:=by
     rcases List.mem_cons.mp (List.mem_of_getElem? hy) with rfl | hy
     ·exact ⟨8,rfl,by decide,by decide⟩
     ·rw [List.mem_singleton.mp hy]
      exact ⟨d,rfl,d0,by omega⟩
    refine ⟨_,rfl,_,rfl,x,v,dd,rfl,dd0,dd8,T10.kp k11,outT_kp k11 T10 O10,b11 _ (b10 _ a5),b11 _ (b10 _ b5),fun tt H12 k12 b12 ht=>?_⟩
    refine ⟨_,rfl,_,rfl,by show 1≤sizeLine; decide,?_⟩
    (intro du gdu; generalize hEq:upd _ du _=H13; refine newC hEq gdu ?_; clear hEq; intro S13 edu odu)
    have ht13:=S13 _ _ ht
    have zz:=TopR.tups (K:=K) (H:=H13) (R:=EqD K H13 0) (fun _=>true) (SqT.of ht13) (SqT.of edu) fun j x y h1 h2=>by
     match j,h1,h2 with
     | 0,h1,h2=>
      cases h1; cases h2
      exact eqd_self (vv.elim (fun e=>.inl (by rw [e]; rfl)) (fun ⟨z,e,_⟩=>.inl (by rw [e]; rfl)))
     | _ + 1,h1,h2=>cases h1
    refine ⟨0,_,by decide,zz,_,rfl,iteF ?_⟩
    have nx:Kp H10 H13∧TbK H10 H13:=⟨(k11.trans k12).trans (Kp.same S13),(b11.trans b12).same S13⟩
    rcases vv with rfl | ⟨z,rfl,zl⟩
    ·refine ⟨_,rfl,_,rfl,?_⟩
     exact ⟨⟨_,_,rfl⟩,nx⟩
    ·refine ⟨_,rfl,_,rfl,iteT ?_⟩
     refine ⟨_,rfl,tt,_,_,_,rfl,rfl,SqT.of ht13,rfl,_,_,_,true,rfl,.of (.str _),.inl ⟨_,rfl,kss⟩,_,rfl,?_⟩
     exact ⟨⟨_,_,rfl⟩,nx⟩
   ·rintro σ H' ⟨⟨v7,v8,rfl⟩,k,b⟩
    exact ⟨⟨_,_,_,_,_,_,rfl⟩,k10.trans k,b10.trans b⟩
  rintro σ H6 ⟨⟨v3,v4,v5,v6,v7,v8,rfl⟩,k6,b6⟩
  refine ⟨_,rfl,_,none,rfl,(tg5.kp k6).out.1,(tg5.kp k6).out.2,b6 _ a5,b6 _ b5,fun _ H7 k7 t7=>?_,nofun⟩
  have k7:=k6.trans k7
  refine ⟨true,rfl,iteT ?_⟩
  have kk:Kp H4 H7:=(Kp.same s5).trans k7
  have nS':S≠S':=ne_of_none g2 nS
  have nF':F'≠F'':=ne_of_none g4 nF
  have nP':Pp≠P':=ne_of_none g5 nP
  have z:=TopR.tups (K:=K) (H:=H7) (R:=EqD K H7 1) (fun _=>true) (SqT.of (kk.tup g1)) (SqT.of (k7.tup e1)) fun j x y h1 h2=>by
   match j,h1,h2 with
   | 0,h1,h2=>
    cases h1; cases h2
    exact eqd_lists (SqL.of (kk.lst g2)) (SqL.of (k7.lst e2)) nS' g3.plain
   | 1,h1,h2=>
    cases h1; cases h2
    exact eqd_lists (SqL.of (kk.lst g4)) (SqL.of (k7.lst e3)) nF' (txs_plain fs)
   | 2,h1,h2=>
    cases h1; cases h2
    exact eqd_lists (SqL.of (kk.lst g5)) (SqL.of (k7.lst e4)) nP' (txs_plain ps)
   | 3,h1,h2=>
    cases h1; cases h2
    exact .inl (.inl ⟨rfl,rfl,by show true=(lg == lg); simp⟩)
   | _ + 4,h1,h2=>cases h1
  exact ⟨_,rfl,_,rfl,1,_,by decide,z,q H7⟩
end
end G1
namespace L2
open PySem PySem.Spec PyProof.Rows PySem.W PySem.W.X
def keepP (p:Addr × Obj):Bool:=match p.2.data with | .fields vs=>!vs.isEmpty | _=>true
def filt (K:Frag):Frag:=K.filter keepP
theorem filt_look {a:Addr} {o:Obj}:∀{K:Frag},K.lookup a=some o→keepP (a,o)=true→(filt K).lookup a=some o
 | [],e,_=>nomatch e
 | (b,u) :: K,e,k=>by
  by_cases q:a=b
  ·subst q
   have e':some u=some o:=by rw [List.lookup_cons,beq_self_eq_true] at e; exact e
   cases e'
   have z:filt ((a,o) :: K)=(a,o) :: filt K:=List.filter_cons_of_pos k
   rw [z,List.lookup_cons,beq_self_eq_true]
  ·have f:(a == b)=false:=beq_eq_false_iff_ne.mpr q
   have e':K.lookup a=some o:=by rw [List.lookup_cons,f] at e; exact e
   have r:=filt_look e' k
   cases hk:keepP (b,u) with
   | true=>
    have z:filt ((b,u) :: K)=(b,u) :: filt K:=List.filter_cons_of_pos hk
    rw [z,List.lookup_cons,f]; exact r
   | false=>
    have z:filt ((b,u) :: K)=filt K:=List.filter_cons_of_neg (by rw [hk]; exact Bool.false_ne_true)
    rw [z]; exact r
theorem filt_ns {K:Frag} {ns:Addr} {x:Str} {v:Option Value} (e:nsIn K ns x=some v):nsIn (filt K) ns x=some v:=by
 unfold nsIn at e ⊢
 split at e
 next cls d es ep sl l=>rw [filt_look l rfl]; exact e
 next=>cases e
theorem filt_code {K:Frag} {cd:Value} {q:Str} (e:codeIn K cd q=true):codeIn (filt K) cd q=true:=by
 unfold codeIn at e ⊢
 split at e
 next c=>
  split at e
  next cls d vs sl l=>
   rw [filt_look l (by
    show (!vs.isEmpty)=true
    cases hv:vs.isEmpty with
    | false=>rfl
    | true=>
     rw [Array.isEmpty_iff] at hv
     subst hv
     exact e)]
   exact e
  next=>cases e
 next=>cases e
theorem filt_mem {a:Addr} {o:Obj}:∀{K:Frag},(filt K).lookup a=some o→(a,o)∈K
 | [],e=>nomatch e
 | (b,u) :: K,e=>by
  cases hk:keepP (b,u) with
  | true=>
   have z:filt ((b,u) :: K)=(b,u) :: filt K:=List.filter_cons_of_pos hk
   rw [z,List.lookup_cons] at e
   by_cases q:a=b
   ·subst q
    rw [beq_self_eq_true] at e
    cases e
    exact List.mem_cons_self ..
   ·rw [beq_eq_false_iff_ne.mpr q] at e
    exact List.mem_cons_of_mem _ (filt_mem e)
  | false=>
   have z:filt ((b,u) :: K)=filt K:=List.filter_cons_of_neg (by rw [hk]; exact Bool.false_ne_true)
   rw [z] at e
   exact List.mem_cons_of_mem _ (filt_mem e)
theorem allIn_mem {h:Heap}:∀{K:Frag} {p:Addr × Obj},AllIn h K→p∈K→h.get? p.1=some p.2
 | [],_,_,m=>nomatch m
 | q :: K,p,A,m=>by
  rcases List.mem_cons.mp m with rfl | m
  ·exact A.1
  ·exact allIn_mem A.2 m
theorem walkX_of {q:Program} {loose:List Str} {XP:(Str→Option Value)→Heap→Prop} {K:Params→Frag} {as:List Addr} {n t:Nat} {r:RowW} {d:DefRec} {kwd:List (Str × PySem.Expr)} {run:Value→List Value→Sem Value}
  (e:∀P,as=(K P).map (·.1)) (h:WalkO q loose XP (fun w h=>(filt (K w.params)).In h) r d kwd run):WalkX q loose XP (obsZ as) (valZ K n t) r d kwd run:=
 fun w s₀ s₁ mg mb G Y a o pm cd doc dV kV ho hd hcd hD hmg hg args vals as L hpre hlay hrd hwl hlo=>
  h w s₀ s₁ mg mb G (fun b u l=>L.keeps _ _ (allIn_mem (z_facts e Y).1 (filt_mem l))) a o pm cd doc dV kV ho hd hcd hD hmg hg args vals as hpre hlay hrd hwl hlo
theorem filt_own {K:Frag} {x:Str} {v:Value} {r:Option Value} (e:ownIn K x v=some r):ownIn (filt K) x v=some r:=by
 unfold ownIn at e ⊢
 split at e
 next n=>exact e
 next a=>
  split at e
  next cls d cd sl l=>rw [filt_look l rfl]; exact filt_ns e
  next=>cases e
 next h1 h2=>exact e
theorem filt_along {K:Frag} {x:Str}:∀{l:List Value} {r:Option Value},alongIn K x l=some r→alongIn (filt K) x l=some r
 | [],r,e=>by rw [alongIn.eq_1] at e ⊢; exact e
 | c :: l,r,e=>by
  rw [alongIn.eq_2] at e ⊢
  cases h:ownIn K x c with
  | none=>rw [h] at e; cases e
  | some o=>
   rw [h] at e
   rw [filt_own h]
   cases o with
   | some v=>exact e
   | none=>exact filt_along e
theorem filt_find {K:Frag} {t:Value} {x:Str} {r:Option Value} (e:findIn K t x=some r):findIn (filt K) t x=some r:=by
 unfold findIn at e ⊢
 split at e
 next n=>exact e
 next a=>
  split at e
  next cls d cd sl l=>rw [filt_look l rfl]; exact filt_along e
  next=>cases e
 next=>cases e
end L2
namespace G1
open PySem PySem.Spec PyProof.Rows L2 GM
theorem keep_of {K:PySem.W.Frag} {f:Addr} {oc:Value} {od:Option Addr} {fd:FuncData} {sl:Array (Option Value)} (l:K.lookup f=some ⟨oc,od,.func fd,sl⟩):PySem.W.keepIn K (.ref f)=true:=by
 unfold PySem.W.keepIn
 simp only [l]
theorem cd_of {K:PySem.W.Frag} {n x q:Str} {f c T:Addr} {fd:FuncData} {oc:Value} {od:Option Addr} {sl:Array (Option Value)} {ar:Arguments} {bo:List Stmt} {sc:Scope} {dV kV dc pm cd ct:Value} {an:Option Addr} (C:CodeN K n f c T fd) (l:K.lookup f=some ⟨oc,od,.func (PySem.W.fnOf x q ar bo sc dV kV dc pm an cd ct),sl⟩):cd = .ref c:=by
 obtain ⟨oc',od',sl',l'⟩:=C.l
 rw [l] at l'
 injection l' with l'; injection l' with _ _ l' _; injection l' with l'
 rw [← C.hc,← l']
theorem len1 {us:List Value} (h:us.length=1):∃a0,us=[a0]:=by
 match us,h with
 | [a0],_=>exact ⟨a0,rfl⟩
theorem len2 {us:List Value} (h:us.length=2):∃a0 a1,us=[a0,a1]:=by
 match us,h with
 | [a0,a1],_=>exact ⟨a0,a1,rfl⟩
theorem len3 {us:List Value} (h:us.length=3):∃a0 a1 a2,us=[a0,a1,a2]:=by
 match us,h with
 | [a0,a1,a2],_=>exact ⟨a0,a1,a2,rfl⟩
theorem len4 {us:List Value} (h:us.length=4):∃a0 a1 a2 a3,us=[a0,a1,a2,a3]:=by
 match us,h with
 | [a0,a1,a2,a3],_=>exact ⟨a0,a1,a2,a3,rfl⟩
theorem all_mk {l:PySem.W.OpenLaw} {w:World} {K:PySem.W.Frag} {h:Heap} {mg:Str→Option Value} {fa:Addr} (X:K.In h) (G:h.Ns mainGlobals mg) (hfa:mg "law" = some (.ref fa))
  {f0:Addr} {od0 an0:Option Addr} {sl0:Array (Option Value)} {oc0 kV0 dc0 pm0 cd0 ct0:Value}
  {f1:Addr} {od1 an1:Option Addr} {sl1:Array (Option Value)} {oc1 kV1 dc1 pm1 cd1 ct1:Value}
  {f2:Addr} {od2 an2:Option Addr} {sl2:Array (Option Value)} {oc2 kV2 dc2 pm2 cd2 ct2:Value}
  {f3:Addr} {od3 an3:Option Addr} {sl3:Array (Option Value)} {oc3 kV3 dc3 pm3 cd3 ct3:Value}
  {cc3 T3:Addr} {fdT3:FuncData}
  {f4:Addr} {od4 an4:Option Addr} {sl4:Array (Option Value)} {oc4 kV4 dc4 pm4 cd4 ct4:Value}
  {f5:Addr} {od5 an5:Option Addr} {sl5:Array (Option Value)} {oc5 kV5 dc5 pm5 cd5 ct5:Value}
  {f6:Addr} {od6 an6:Option Addr} {sl6:Array (Option Value)} {oc6 kV6 dc6 pm6 cd6 ct6:Value}
  {f7:Addr} {od7 an7:Option Addr} {sl7:Array (Option Value)} {oc7 kV7 dc7 pm7 cd7 ct7:Value}
  {cc7 T7:Addr} {fdT7:FuncData}
  {f8:Addr} {od8 an8:Option Addr} {sl8:Array (Option Value)} {oc8 kV8 dc8 pm8 cd8 ct8:Value}
  {f9:Addr} {od9 an9:Option Addr} {sl9:Array (Option Value)} {oc9 kV9 dc9 pm9 cd9 ct9:Value}
  {f10:Addr} {od10 an10:Option Addr} {sl10:Array (Option Value)} {oc10 kV10 dc10 pm10 cd10 ct10:Value}
  {f11:Addr} {od11 an11:Option Addr} {sl11:Array (Option Value)} {oc11 kV11 dc11 pm11 cd11 ct11:Value}
  {f12:Addr} {od12 an12:Option Addr} {sl12:Array (Option Value)} {oc12 kV12 dc12 pm12 cd12 ct12:Value}
  {f13:Addr} {od13 an13:Option Addr} {sl13:Array (Option Value)} {oc13 kV13 dc13 pm13 cd13 ct13:Value}
  {f14:Addr} {od14 an14:Option Addr} {sl14:Array (Option Value)} {oc14 kV14 dc14 pm14 cd14 ct14:Value}
  {f15:Addr} {od15 an15:Option Addr} {sl15:Array (Option Value)} {oc15 kV15 dc15 pm15 cd15 ct15:Value}
  {f16:Addr} {od16 an16:Option Addr} {sl16:Array (Option Value)} {oc16 kV16 dc16 pm16 cd16 ct16:Value}
  {f17:Addr} {od17 an17:Option Addr} {sl17:Array (Option Value)} {oc17 kV17 dc17 pm17 cd17 ct17:Value}
  {f18:Addr} {od18 an18:Option Addr} {sl18:Array (Option Value)} {oc18 kV18 dc18 pm18 cd18 ct18:Value}
  {f19:Addr} {od19 an19:Option Addr} {sl19:Array (Option Value)} {oc19 kV19 dc19 pm19 cd19 ct19:Value}
  {f20:Addr} {od20 an20:Option Addr} {sl20:Array (Option Value)} {oc20 kV20 dc20 pm20 cd20 ct20:Value}
  {f21:Addr} {od21 an21:Option Addr} {sl21:Array (Option Value)} {oc21 kV21 dc21 pm21 cd21 ct21:Value}
  {f22:Addr} {od22 an22:Option Addr} {sl22:Array (Option Value)} {oc22 kV22 dc22 pm22 cd22 ct22:Value}
  {f23:Addr} {od23 an23:Option Addr} {sl23:Array (Option Value)} {oc23 kV23 dc23 pm23 cd23 ct23:Value}
  {f24:Addr} {od24 an24:Option Addr} {sl24:Array (Option Value)} {oc24 kV24 dc24 pm24 cd24 ct24:Value}
  {f25:Addr} {od25 an25:Option Addr} {sl25:Array (Option Value)} {oc25 kV25 dc25 pm25 cd25 ct25:Value}
  {f26:Addr} {od26 an26:Option Addr} {sl26:Array (Option Value)} {oc26 kV26 dc26 pm26 cd26 ct26:Value}
  {f27:Addr} {od27 an27:Option Addr} {sl27:Array (Option Value)} {oc27 kV27 dc27 pm27 cd27 ct27:Value}
  {f28:Addr} {od28 an28:Option Addr} {sl28:Array (Option Value)} {oc28 kV28 dc28 pm28 cd28 ct28:Value}
  {f29:Addr} {od29 an29:Option Addr} {sl29:Array (Option Value)} {oc29 kV29 dc29 pm29 cd29 ct29:Value}
  {f30:Addr} {od30 an30:Option Addr} {sl30:Array (Option Value)} {oc30 kV30 dc30 pm30 cd30 ct30:Value}
  {f31:Addr} {od31 an31:Option Addr} {sl31:Array (Option Value)} {oc31 kV31 dc31 pm31 cd31 ct31:Value}
  {f32:Addr} {od32 an32:Option Addr} {sl32:Array (Option Value)} {oc32 kV32 dc32 pm32 cd32 ct32:Value}
  {f33:Addr} {od33 an33:Option Addr} {sl33:Array (Option Value)} {oc33 kV33 dc33 pm33 cd33 ct33:Value}
  {f34:Addr} {od34 an34:Option Addr} {sl34:Array (Option Value)} {oc34 kV34 dc34 pm34 cd34 ct34:Value}
  {f35:Addr} {od35 an35:Option Addr} {sl35:Array (Option Value)} {oc35 kV35 dc35 pm35 cd35 ct35:Value}
  {f36:Addr} {od36 an36:Option Addr} {sl36:Array (Option Value)} {oc36 kV36 dc36 pm36 cd36 ct36:Value}
  {f37:Addr} {od37 an37:Option Addr} {sl37:Array (Option Value)} {oc37 kV37 dc37 pm37 cd37 ct37:Value}
  {tkA tkB tkC tkD tkE:Tok}
  {C0 C1 C2 C3 C4 C5 C6 C7 C8 C9 C10 C11 C12 C13 C14:Addr}
  {fI1:Addr}
  (CN3:CodeN K "is_name" f3 cc3 T3 fdT3)
  (CN7:CodeN K "are_signs" f7 cc7 T7 fdT7)
  (a0:PySem.W.nsIn K mainGlobals "is_whole" = some (some (.ref f0)))
  (l0:K.lookup f0=some ⟨oc0,od0,.func (PySem.W.fnOf "is_whole" "is_whole" (defArgs sWhole) (defBody sWhole) (defScope sWhole) .none kV0 dc0 pm0 an0 cd0 ct0),sl0⟩)
  (c0:PySem.W.codeIn K cd0 "is_whole" = true)
  (a1:PySem.W.nsIn K mainGlobals "is_whole_within" = some (some (.ref f1)))
  (l1:K.lookup f1=some ⟨oc1,od1,.func (PySem.W.fnOf "is_whole_within" "is_whole_within" (defArgs sWithin) (defBody sWithin) (defScope sWithin) .none kV1 dc1 pm1 an1 cd1 ct1),sl1⟩)
  (c1:PySem.W.codeIn K cd1 "is_whole_within" = true)
  (a2:PySem.W.nsIn K mainGlobals "is_fraction" = some (some (.ref f2)))
  (l2:K.lookup f2=some ⟨oc2,od2,.func (PySem.W.fnOf "is_fraction" "is_fraction" (defArgs sIsF) (defBody sIsF) (defScope sIsF) .none kV2 dc2 pm2 an2 cd2 ct2),sl2⟩)
  (c2:PySem.W.codeIn K cd2 "is_fraction" = true)
  (a3:PySem.W.nsIn K mainGlobals "is_name" = some (some (.ref f3)))
  (l3:K.lookup f3=some ⟨oc3,od3,.func (PySem.W.fnOf "is_name" "is_name" (defArgs sName) (defBody sName) (defScope sName) .none kV3 dc3 pm3 an3 cd3 ct3),sl3⟩)
  (c3:PySem.W.codeIn K cd3 "is_name" = true)
  (a4:PySem.W.nsIn K mainGlobals "common_divisor" = some (some (.ref f4)))
  (l4:K.lookup f4=some ⟨oc4,od4,.func (PySem.W.fnOf "common_divisor" "common_divisor" (defArgs sGcd) (defBody sGcd) (defScope sGcd) .none kV4 dc4 pm4 an4 cd4 ct4),sl4⟩)
  (c4:PySem.W.codeIn K cd4 "common_divisor" = true)
  (a5:PySem.W.nsIn K mainGlobals "is_letter" = some (some (.ref f5)))
  (l5:K.lookup f5=some ⟨oc5,od5,.func (PySem.W.fnOf "is_letter" "is_letter" (defArgs sLetter) (defBody sLetter) (defScope sLetter) .none kV5 dc5 pm5 an5 cd5 ct5),sl5⟩)
  (c5:PySem.W.codeIn K cd5 "is_letter" = true)
  (a6:PySem.W.nsIn K mainGlobals "look_at_tongue" = some (some (.ref f6)))
  (l6:K.lookup f6=some ⟨oc6,od6,.func (PySem.W.fnOf "look_at_tongue" "look_at_tongue" (defArgs sLook) (defBody sLook) (defScope sLook) .none kV6 dc6 pm6 an6 cd6 ct6),sl6⟩)
  (c6:PySem.W.codeIn K cd6 "look_at_tongue" = true)
  (a7:PySem.W.nsIn K mainGlobals "are_signs" = some (some (.ref f7)))
  (l7:K.lookup f7=some ⟨oc7,od7,.func (PySem.W.fnOf "are_signs" "are_signs" (defArgs sSigns) (defBody sSigns) (defScope sSigns) .none kV7 dc7 pm7 an7 cd7 ct7),sl7⟩)
  (c7:PySem.W.codeIn K cd7 "are_signs" = true)
  (a8:PySem.W.nsIn K mainGlobals "is_sign_row" = some (some (.ref f8)))
  (l8:K.lookup f8=some ⟨oc8,od8,.func (PySem.W.fnOf "is_sign_row" "is_sign_row" (defArgs sRow) (defBody sRow) (defScope sRow) .none kV8 dc8 pm8 an8 cd8 ct8),sl8⟩)
  (c8:PySem.W.codeIn K cd8 "is_sign_row" = true)
  (a9:PySem.W.nsIn K mainGlobals "is_above_nought" = some (some (.ref f9)))
  (l9:K.lookup f9=some ⟨oc9,od9,.func (PySem.W.fnOf "is_above_nought" "is_above_nought" (defArgs sAbove) (defBody sAbove) (defScope sAbove) .none kV9 dc9 pm9 an9 cd9 ct9),sl9⟩)
  (c9:PySem.W.codeIn K cd9 "is_above_nought" = true)
  (a10:PySem.W.nsIn K mainGlobals "are_unlike_texts_of" = some (some (.ref f10)))
  (l10:K.lookup f10=some ⟨oc10,od10,.func (PySem.W.fnOf "are_unlike_texts_of" "are_unlike_texts_of" (defArgs sUnlike) (defBody sUnlike) (defScope sUnlike) .none kV10 dc10 pm10 an10 cd10 ct10),sl10⟩)
  (c10:PySem.W.codeIn K cd10 "are_unlike_texts_of" = true)
  (a11:PySem.W.nsIn K mainGlobals "signs_of" = some (some (.ref f11)))
  (l11:K.lookup f11=some ⟨oc11,od11,.func (PySem.W.fnOf "signs_of" "signs_of" (defArgs sSignsOf) (defBody sSignsOf) (defScope sSignsOf) .none kV11 dc11 pm11 an11 cd11 ct11),sl11⟩)
  (c11:PySem.W.codeIn K cd11 "signs_of" = true)
  (a12:PySem.W.nsIn K mainGlobals "_law_cell" = some (some (.ref f12)))
  (l12:K.lookup f12=some ⟨oc12,od12,.func (PySem.W.fnOf "_law_cell" "_law_cell" (defArgs sCell) (defBody sCell) (defScope sCell) .none kV12 dc12 pm12 an12 cd12 ct12),sl12⟩)
  (c12:PySem.W.codeIn K cd12 "_law_cell" = true)
  (a13:PySem.W.nsIn K mainGlobals "_law_source" = some (some (.ref f13)))
  (l13:K.lookup f13=some ⟨oc13,od13,.func (PySem.W.fnOf "_law_source" "_law_source" (defArgs sSource) (defBody sSource) (defScope sSource) .none kV13 dc13 pm13 an13 cd13 ct13),sl13⟩)
  (c13:PySem.W.codeIn K cd13 "_law_source" = true)
  (a14:PySem.W.nsIn K mainGlobals "_law_draw" = some (some (.ref f14)))
  (l14:K.lookup f14=some ⟨oc14,od14,.func (PySem.W.fnOf "_law_draw" "_law_draw" (defArgs sDraw) (defBody sDraw) (defScope sDraw) .none kV14 dc14 pm14 an14 cd14 ct14),sl14⟩)
  (c14:PySem.W.codeIn K cd14 "_law_draw" = true)
  (a15:PySem.W.nsIn K mainGlobals "_law_lowest" = some (some (.ref f15)))
  (l15:K.lookup f15=some ⟨oc15,od15,.func (PySem.W.fnOf "_law_lowest" "_law_lowest" (defArgs sLowest) (defBody sLowest) (defScope sLowest) .none kV15 dc15 pm15 an15 cd15 ct15),sl15⟩)
  (c15:PySem.W.codeIn K cd15 "_law_lowest" = true)
  (a16:PySem.W.nsIn K mainGlobals "_law_price" = some (some (.ref f16)))
  (l16:K.lookup f16=some ⟨oc16,od16,.func (PySem.W.fnOf "_law_price" "_law_price" (defArgs sPrice) (defBody sPrice) (defScope sPrice) .none kV16 dc16 pm16 an16 cd16 ct16),sl16⟩)
  (c16:PySem.W.codeIn K cd16 "_law_price" = true)
  (a17:PySem.W.nsIn K mainGlobals "_law_signs" = some (some (.ref f17)))
  (l17:K.lookup f17=some ⟨oc17,od17,.func (PySem.W.fnOf "_law_signs" "_law_signs" (defArgs sLSigns) (defBody sLSigns) (defScope sLSigns) .none kV17 dc17 pm17 an17 cd17 ct17),sl17⟩)
  (c17:PySem.W.codeIn K cd17 "_law_signs" = true)
  (a18:PySem.W.nsIn K mainGlobals "_law_tongue" = some (some (.ref f18)))
  (l18:K.lookup f18=some ⟨oc18,od18,.func (PySem.W.fnOf "_law_tongue" "_law_tongue" (defArgs sTongue) (defBody sTongue) (defScope sTongue) .none kV18 dc18 pm18 an18 cd18 ct18),sl18⟩)
  (c18:PySem.W.codeIn K cd18 "_law_tongue" = true)
  (a19:PySem.W.nsIn K mainGlobals "_law_copy" = some (some (.ref f19)))
  (l19:K.lookup f19=some ⟨oc19,od19,.func (PySem.W.fnOf "_law_copy" "_law_copy" (defArgs sCopy) (defBody sCopy) (defScope sCopy) .none kV19 dc19 pm19 an19 cd19 ct19),sl19⟩)
  (c19:PySem.W.codeIn K cd19 "_law_copy" = true)
  (a20:PySem.W.nsIn K mainGlobals "may_stand" = some (some (.ref f20)))
  (l20:K.lookup f20=some ⟨oc20,od20,.func (PySem.W.fnOf "may_stand" "may_stand" (defArgs sMayStand) (defBody sMayStand) (defScope sMayStand) .none kV20 dc20 pm20 an20 cd20 ct20),sl20⟩)
  (c20:PySem.W.codeIn K cd20 "may_stand" = true)
  (a21:PySem.W.nsIn K mainGlobals "is_word" = some (some (.ref f21)))
  (l21:K.lookup f21=some ⟨oc21,od21,.func (PySem.W.fnOf "is_word" "is_word" (defArgs sIsWord) (defBody sIsWord) (defScope sIsWord) .none kV21 dc21 pm21 an21 cd21 ct21),sl21⟩)
  (c21:PySem.W.codeIn K cd21 "is_word" = true)
  (a22:PySem.W.nsIn K mainGlobals "may_come" = some (some (.ref f22)))
  (l22:K.lookup f22=some ⟨oc22,od22,.func (PySem.W.fnOf "may_come" "may_come" (defArgs sMayCome) (defBody sMayCome) (defScope sMayCome) .none kV22 dc22 pm22 an22 cd22 ct22),sl22⟩)
  (c22:PySem.W.codeIn K cd22 "may_come" = true)
  (a23:PySem.W.nsIn K mainGlobals "way_of" = some (some (.ref f23)))
  (l23:K.lookup f23=some ⟨oc23,od23,.func (PySem.W.fnOf "way_of" "way_of" (defArgs sWay) (defBody sWay) (defScope sWay) .none kV23 dc23 pm23 an23 cd23 ct23),sl23⟩)
  (c23:PySem.W.codeIn K cd23 "way_of" = true)
  (a24:PySem.W.nsIn K mainGlobals "price_of" = some (some (.ref f24)))
  (l24:K.lookup f24=some ⟨oc24,od24,.func (PySem.W.fnOf "price_of" "price_of" (defArgs sPriceOf) (defBody sPriceOf) (defScope sPriceOf) .none kV24 dc24 pm24 an24 cd24 ct24),sl24⟩)
  (c24:PySem.W.codeIn K cd24 "price_of" = true)
  (a25:PySem.W.nsIn K mainGlobals "words_of" = some (some (.ref f25)))
  (l25:K.lookup f25=some ⟨oc25,od25,.func (PySem.W.fnOf "words_of" "words_of" (defArgs sWords) (defBody sWords) (defScope sWords) .none kV25 dc25 pm25 an25 cd25 ct25),sl25⟩)
  (c25:PySem.W.codeIn K cd25 "words_of" = true)
  (a26:PySem.W.nsIn K mainGlobals "word_counts" = some (some (.ref f26)))
  (l26:K.lookup f26=some ⟨oc26,od26,.func (PySem.W.fnOf "word_counts" "word_counts" (defArgs sWCounts) (defBody sWCounts) (defScope sWCounts) .none kV26 dc26 pm26 an26 cd26 ct26),sl26⟩)
  (c26:PySem.W.codeIn K cd26 "word_counts" = true)
  (a27:PySem.W.nsIn K mainGlobals "text_counts" = some (some (.ref f27)))
  (l27:K.lookup f27=some ⟨oc27,od27,.func (PySem.W.fnOf "text_counts" "text_counts" (defArgs sTCounts) (defBody sTCounts) (defScope sTCounts) .none kV27 dc27 pm27 an27 cd27 ct27),sl27⟩)
  (c27:PySem.W.codeIn K cd27 "text_counts" = true)
  (a28:PySem.W.nsIn K mainGlobals "_law_stranger" = some (some (.ref f28)))
  (l28:K.lookup f28=some ⟨oc28,od28,.func (PySem.W.fnOf "_law_stranger" "_law_stranger" (defArgs sStranger) (defBody sStranger) (defScope sStranger) .none kV28 dc28 pm28 an28 cd28 ct28),sl28⟩)
  (c28:PySem.W.codeIn K cd28 "_law_stranger" = true)
  (a29:PySem.W.nsIn K mainGlobals "_law_more_signs" = some (some (.ref f29)))
  (l29:K.lookup f29=some ⟨oc29,od29,.func (PySem.W.fnOf "_law_more_signs" "_law_more_signs" (defArgs sMoreS) (defBody sMoreS) (defScope sMoreS) .none kV29 dc29 pm29 an29 cd29 ct29),sl29⟩)
  (c29:PySem.W.codeIn K cd29 "_law_more_signs" = true)
  (a30:PySem.W.nsIn K mainGlobals "_law_bad_signs" = some (some (.ref f30)))
  (l30:K.lookup f30=some ⟨oc30,od30,.func (PySem.W.fnOf "_law_bad_signs" "_law_bad_signs" (defArgs sBadS) (defBody sBadS) (defScope sBadS) .none kV30 dc30 pm30 an30 cd30 ct30),sl30⟩)
  (c30:PySem.W.codeIn K cd30 "_law_bad_signs" = true)
  (a31:PySem.W.nsIn K mainGlobals "_law_bad_firsts" = some (some (.ref f31)))
  (l31:K.lookup f31=some ⟨oc31,od31,.func (PySem.W.fnOf "_law_bad_firsts" "_law_bad_firsts" (defArgs sBadF) (defBody sBadF) (defScope sBadF) .none kV31 dc31 pm31 an31 cd31 ct31),sl31⟩)
  (c31:PySem.W.codeIn K cd31 "_law_bad_firsts" = true)
  (a32:PySem.W.nsIn K mainGlobals "_law_bad_pairs" = some (some (.ref f32)))
  (l32:K.lookup f32=some ⟨oc32,od32,.func (PySem.W.fnOf "_law_bad_pairs" "_law_bad_pairs" (defArgs sBadP) (defBody sBadP) (defScope sBadP) .none kV32 dc32 pm32 an32 cd32 ct32),sl32⟩)
  (c32:PySem.W.codeIn K cd32 "_law_bad_pairs" = true)
  (a33:PySem.W.nsIn K mainGlobals "_law_spoilt" = some (some (.ref f33)))
  (l33:K.lookup f33=some ⟨oc33,od33,.func (PySem.W.fnOf "_law_spoilt" "_law_spoilt" (defArgs sSpoilt) (defBody sSpoilt) (defScope sSpoilt) .none kV33 dc33 pm33 an33 cd33 ct33),sl33⟩)
  (c33:PySem.W.codeIn K cd33 "_law_spoilt" = true)
  (a34:PySem.W.nsIn K mainGlobals "_law_is_refusal" = some (some (.ref f34)))
  (l34:K.lookup f34=some ⟨oc34,od34,.func (PySem.W.fnOf "_law_is_refusal" "_law_is_refusal" (defArgs sIsRef) (defBody sIsRef) (defScope sIsRef) .none kV34 dc34 pm34 an34 cd34 ct34),sl34⟩)
  (c34:PySem.W.codeIn K cd34 "_law_is_refusal" = true)
  (a35:PySem.W.nsIn K mainGlobals "_law_call" = some (some (.ref f35)))
  (l35:K.lookup f35=some ⟨oc35,od35,.func (PySem.W.fnOf "_law_call" "_law_call" (defArgs sLCall) (defBody sLCall) (defScope sLCall) .none kV35 dc35 pm35 an35 cd35 ct35),sl35⟩)
  (c35:PySem.W.codeIn K cd35 "_law_call" = true)
  (a36:PySem.W.nsIn K mainGlobals "_law_part" = some (some (.ref f36)))
  (l36:K.lookup f36=some ⟨oc36,od36,.func (PySem.W.fnOf "_law_part" "_law_part" (defArgs sPart) (defBody sPart) (defScope sPart) .none kV36 dc36 pm36 an36 cd36 ct36),sl36⟩)
  (c36:PySem.W.codeIn K cd36 "_law_part" = true)
  (a37:PySem.W.nsIn K mainGlobals "law" = some (some (.ref f37)))
  (l37:K.lookup f37=some ⟨oc37,od37,.func (PySem.W.fnOf "law" "law" (defArgs sLaw) (defBody sLaw) (defScope sLaw) .none kV37 dc37 pm37 an37 cd37 ct37),sl37⟩)
  (c37:PySem.W.codeIn K cd37 "law" = true)
  (aLe:PySem.W.nsIn K mainGlobals "LETTERS" = some (some (.str letters tkA)))
  (aLo:PySem.W.nsIn K mainGlobals "LONGEST_NAME" = some (some (.int 8 tkB)))
  (aFe:PySem.W.nsIn K mainGlobals "FEWEST_SIGNS" = some (some (.int 2 tkC)))
  (aMo:PySem.W.nsIn K mainGlobals "MOST_SIGNS" = some (some (.int 6 tkD)))
  (aLw:PySem.W.nsIn K mainGlobals "LONGEST_WORD" = some (some (.int 8 tkE)))
  (m0:PySem.W.nsIn K mainGlobals "DearError" = some (some (.ref C0)))
  (m1:PySem.W.nsIn K mainGlobals "NoTongue" = some (some (.ref C1)))
  (m2:PySem.W.nsIn K mainGlobals "BadSign" = some (some (.ref C2)))
  (m3:PySem.W.nsIn K mainGlobals "NoBook" = some (some (.ref C3)))
  (m4:PySem.W.nsIn K mainGlobals "NoCount" = some (some (.ref C4)))
  (m5:PySem.W.nsIn K mainGlobals "NoNumber" = some (some (.ref C5)))
  (m6:PySem.W.nsIn K mainGlobals "NoRow" = some (some (.ref C6)))
  (m7:PySem.W.nsIn K mainGlobals "NoText" = some (some (.ref C7)))
  (m8:PySem.W.nsIn K mainGlobals "NoThing" = some (some (.ref C8)))
  (m9:PySem.W.nsIn K mainGlobals "NoTree" = some (some (.ref C9)))
  (m10:PySem.W.nsIn K mainGlobals "NoTurn" = some (some (.ref C10)))
  (m11:PySem.W.nsIn K mainGlobals "NoUndo" = some (some (.ref C11)))
  (m12:PySem.W.nsIn K mainGlobals "NoWants" = some (some (.ref C12)))
  (m13:PySem.W.nsIn K mainGlobals "TooMany" = some (some (.ref C13)))
  (m14:PySem.W.nsIn K mainGlobals "Unknown" = some (some (.ref C14)))
  (q1:PySem.W.findIn K (.ref C1) "__getattribute__" = some (some (.builtin "BaseException.__getattribute__")))
  (q0:PySem.W.findIn K (.ref C1) "__getattr__" = some none)
  (q2:PySem.W.hasDictIn K C1=true)
  (q3:PySem.W.findIn K (.ref C1) "__class__" = some (some (.builtin "object.__class__")))
  (q4:PySem.W.specialIn K (.builtin "object.__class__") "__get__" = some (some (.builtin "getset_descriptor.__get__")))
  (q5:PySem.W.takesIn K (.builtin "object.__class__")=some true)
  (q6:PySem.W.mroIn K C1 (.type "object")=some true)
  (qb:PySem.W.mroIn K C1 (.type "BaseException")=some true)
  (q7:PySem.W.mroIn K C1 (.ref C1)=some true)
  (q8:PySem.W.mroIn K C1 (.type "ValueError")=some true)
  (q9:PySem.W.mroIn K C1 (.ref C0)=some true)
  (r1:PySem.W.instIn K (.ref C0) (.type "tuple")=some false)
  (r2:PySem.W.hasDictIn K C0=true)
  (r3:PySem.W.mroIn K C0 (.type "BaseException")=some true)
  (n2:PySem.W.mroIn K C1 (.ref C2)=some false)
  (d2:PySem.W.hasDictIn K C2=true)
  (t2:PySem.W.typeIn K (.ref C2)=some (.type "type"))
  (n3:PySem.W.mroIn K C1 (.ref C3)=some false)
  (d3:PySem.W.hasDictIn K C3=true)
  (t3:PySem.W.typeIn K (.ref C3)=some (.type "type"))
  (n4:PySem.W.mroIn K C1 (.ref C4)=some false)
  (d4:PySem.W.hasDictIn K C4=true)
  (t4:PySem.W.typeIn K (.ref C4)=some (.type "type"))
  (n5:PySem.W.mroIn K C1 (.ref C5)=some false)
  (d5:PySem.W.hasDictIn K C5=true)
  (t5:PySem.W.typeIn K (.ref C5)=some (.type "type"))
  (n6:PySem.W.mroIn K C1 (.ref C6)=some false)
  (d6:PySem.W.hasDictIn K C6=true)
  (t6:PySem.W.typeIn K (.ref C6)=some (.type "type"))
  (n7:PySem.W.mroIn K C1 (.ref C7)=some false)
  (d7:PySem.W.hasDictIn K C7=true)
  (t7:PySem.W.typeIn K (.ref C7)=some (.type "type"))
  (n8:PySem.W.mroIn K C1 (.ref C8)=some false)
  (d8:PySem.W.hasDictIn K C8=true)
  (t8:PySem.W.typeIn K (.ref C8)=some (.type "type"))
  (n9:PySem.W.mroIn K C1 (.ref C9)=some false)
  (d9:PySem.W.hasDictIn K C9=true)
  (t9:PySem.W.typeIn K (.ref C9)=some (.type "type"))
  (n10:PySem.W.mroIn K C1 (.ref C10)=some false)
  (d10:PySem.W.hasDictIn K C10=true)
  (t10:PySem.W.typeIn K (.ref C10)=some (.type "type"))
  (n11:PySem.W.mroIn K C1 (.ref C11)=some false)
  (d11:PySem.W.hasDictIn K C11=true)
  (t11:PySem.W.typeIn K (.ref C11)=some (.type "type"))
  (n12:PySem.W.mroIn K C1 (.ref C12)=some false)
  (d12:PySem.W.hasDictIn K C12=true)
  (t12:PySem.W.typeIn K (.ref C12)=some (.type "type"))
  (n13:PySem.W.mroIn K C1 (.ref C13)=some false)
  (d13:PySem.W.hasDictIn K C13=true)
  (t13:PySem.W.typeIn K (.ref C13)=some (.type "type"))
  (n14:PySem.W.mroIn K C1 (.ref C14)=some false)
  (d14:PySem.W.hasDictIn K C14=true)
  (t14:PySem.W.typeIn K (.ref C14)=some (.type "type"))
  (nx:PySem.W.findIn K (.ref C1) "part" = some none)
  (IKf:PySem.W.findIn K (.ref C1) "__init__" = some (some (.ref fI1)))
  (IK:InitK l.prog w K mg C1 fI1 "part")
  (zve:PySem.W.nsIn K mainGlobals "ValueError" = some none)
  (z_isi:PySem.W.nsIn K mainGlobals "isinstance" = some none)
  (z_int:PySem.W.nsIn K mainGlobals "int" = some none)
  (z_bool:PySem.W.nsIn K mainGlobals "bool" = some none)
  (z_tuple:PySem.W.nsIn K mainGlobals "tuple" = some none)
  (z_abs:PySem.W.nsIn K mainGlobals "abs" = some none)
  (z_len:PySem.W.nsIn K mainGlobals "len" = some none)
  (z_enum:PySem.W.nsIn K mainGlobals "enumerate" = some none)
  (z_str:PySem.W.nsIn K mainGlobals "str" = some none)
  (z_range:PySem.W.nsIn K mainGlobals "range" = some none)
  (z_max:PySem.W.nsIn K mainGlobals "max" = some none)
  (z_all:PySem.W.nsIn K mainGlobals "all" = some none)
  (z_set:PySem.W.nsIn K mainGlobals "set" = some none)
  (z_list:PySem.W.nsIn K mainGlobals "list" = some none)
  (z_min:PySem.W.nsIn K mainGlobals "min" = some none)
  (z_sum:PySem.W.nsIn K mainGlobals "sum" = some none)
  (z_dict:PySem.W.nsIn K mainGlobals "dict" = some none)
  (z_any:PySem.W.nsIn K mainGlobals "any" = some none)
  (z_reversed:PySem.W.nsIn K mainGlobals "reversed" = some none)
  (z_sorted:PySem.W.nsIn K mainGlobals "sorted" = some none) :
  ∃fd:FuncData,(∀(s:Shared) (v:Value),BindsTo s fd ⟨[v],[]⟩ [("_law_script",v)])∧∀base:Heap,K.In base→base.Ns mainGlobals mg→BmOf mg base→FnOk l.prog w K mg base (CXE l.prog w) 11 fa fd ["_law_script"] (spLaw (tbOf K "is_name") (tbOf K "are_signs") K):=by
 have e:=hfa.symm.trans (PySem.W.mg_of X G a37)
 cases e
 have B:Bl mg:=⟨PySem.W.mg_none_of X G z_isi,PySem.W.mg_none_of X G z_int,PySem.W.mg_none_of X G z_bool,PySem.W.mg_none_of X G z_tuple,PySem.W.mg_none_of X G z_abs,PySem.W.mg_none_of X G z_len,PySem.W.mg_none_of X G z_enum,PySem.W.mg_none_of X G z_str,PySem.W.mg_none_of X G z_range,PySem.W.mg_none_of X G z_max,PySem.W.mg_none_of X G z_all,PySem.W.mg_none_of X G z_set,PySem.W.mg_none_of X G z_list,PySem.W.mg_none_of X G z_min,PySem.W.mg_none_of X G z_sum,PySem.W.mg_none_of X G z_dict,PySem.W.mg_none_of X G z_any,PySem.W.mg_none_of X G z_reversed,PySem.W.mg_none_of X G z_sorted⟩
 have hcd3:=cd_of CN3 l3
 subst hcd3
 rw [CN3.tb]
 have hcd7:=cd_of CN7 l7
 subst hcd7
 rw [CN7.tb]
 have k0:=keep_of l0
 have F0:=fung_mk (st:=sWhole) l0 c0 k0
 have k1:=keep_of l1
 have F1:=fung_mk (st:=sWithin) l1 c1 k1
 have k2:=keep_of l2
 have F2:=fung_mk (st:=sIsF) l2 c2 k2
 have k3:=keep_of l3
 have F3:=fung_mk (st:=sName) l3 c3 k3
 have k4:=keep_of l4
 have F4:=fung_mk (st:=sGcd) l4 c4 k4
 have k5:=keep_of l5
 have F5:=fung_mk (st:=sLetter) l5 c5 k5
 have k6:=keep_of l6
 have F6:=fung_mk (st:=sLook) l6 c6 k6
 have k7:=keep_of l7
 have F7:=fung_mk (st:=sSigns) l7 c7 k7
 have k8:=keep_of l8
 have F8:=fung_mk (st:=sRow) l8 c8 k8
 have k9:=keep_of l9
 have F9:=fung_mk (st:=sAbove) l9 c9 k9
 have k10:=keep_of l10
 have F10:=fung_mk (st:=sUnlike) l10 c10 k10
 have k11:=keep_of l11
 have F11:=fung_mk (st:=sSignsOf) l11 c11 k11
 have k12:=keep_of l12
 have F12:=fung_mk (st:=sCell) l12 c12 k12
 have k13:=keep_of l13
 have F13:=fung_mk (st:=sSource) l13 c13 k13
 have k14:=keep_of l14
 have F14:=fung_mk (st:=sDraw) l14 c14 k14
 have k15:=keep_of l15
 have F15:=fung_mk (st:=sLowest) l15 c15 k15
 have k16:=keep_of l16
 have F16:=fung_mk (st:=sPrice) l16 c16 k16
 have k17:=keep_of l17
 have F17:=fung_mk (st:=sLSigns) l17 c17 k17
 have k18:=keep_of l18
 have F18:=fung_mk (st:=sTongue) l18 c18 k18
 have k19:=keep_of l19
 have F19:=fung_mk (st:=sCopy) l19 c19 k19
 have k20:=keep_of l20
 have F20:=fung_mk (st:=sMayStand) l20 c20 k20
 have k21:=keep_of l21
 have F21:=fung_mk (st:=sIsWord) l21 c21 k21
 have k22:=keep_of l22
 have F22:=fung_mk (st:=sMayCome) l22 c22 k22
 have k23:=keep_of l23
 have F23:=fung_mk (st:=sWay) l23 c23 k23
 have k24:=keep_of l24
 have F24:=fung_mk (st:=sPriceOf) l24 c24 k24
 have k25:=keep_of l25
 have F25:=fung_mk (st:=sWords) l25 c25 k25
 have k26:=keep_of l26
 have F26:=fung_mk (st:=sWCounts) l26 c26 k26
 have k27:=keep_of l27
 have F27:=fung_mk (st:=sTCounts) l27 c27 k27
 have k28:=keep_of l28
 have F28:=fung_mk (st:=sStranger) l28 c28 k28
 have k29:=keep_of l29
 have F29:=fung_mk (st:=sMoreS) l29 c29 k29
 have k30:=keep_of l30
 have F30:=fung_mk (st:=sBadS) l30 c30 k30
 have k31:=keep_of l31
 have F31:=fung_mk (st:=sBadF) l31 c31 k31
 have k32:=keep_of l32
 have F32:=fung_mk (st:=sBadP) l32 c32 k32
 have k33:=keep_of l33
 have F33:=fung_mk (st:=sSpoilt) l33 c33 k33
 have k34:=keep_of l34
 have F34:=fung_mk (st:=sIsRef) l34 c34 k34
 have k35:=keep_of l35
 have F35:=fung_mk (st:=sLCall) l35 c35 k35
 have k36:=keep_of l36
 have F36:=fung_mk (st:=sPart) l36 c36 k36
 have k37:=keep_of l37
 have F37:=fung_mk (st:=sLaw) l37 c37 k37
 have b0:=F0.binds (ps:=["thing"]) fun _ _ _ _ _ _ us hl=>by obtain ⟨_,rfl⟩:=len1 hl; rfl
 have b1:=F1.binds (ps:=["thing","least","most"]) fun _ _ _ _ _ _ us hl=>by obtain ⟨_,_,_,rfl⟩:=len3 hl; rfl
 have b2:=F2.binds (ps:=["thing"]) fun _ _ _ _ _ _ us hl=>by obtain ⟨_,rfl⟩:=len1 hl; rfl
 have b3:=F3.binds (ps:=["thing"]) fun _ _ _ _ _ _ us hl=>by obtain ⟨_,rfl⟩:=len1 hl; rfl
 have b4:=F4.binds (ps:=["one","other"]) fun _ _ _ _ _ _ us hl=>by obtain ⟨_,_,rfl⟩:=len2 hl; rfl
 have b5:=F5.binds (ps:=["thing"]) fun _ _ _ _ _ _ us hl=>by obtain ⟨_,rfl⟩:=len1 hl; rfl
 have b6:=F6.binds (ps:=["thing"]) fun _ _ _ _ _ _ us hl=>by obtain ⟨_,rfl⟩:=len1 hl; rfl
 have b7:=F7.binds (ps:=["thing"]) fun _ _ _ _ _ _ us hl=>by obtain ⟨_,rfl⟩:=len1 hl; rfl
 have b8:=F8.binds (ps:=["thing"]) fun _ _ _ _ _ _ us hl=>by obtain ⟨_,rfl⟩:=len1 hl; rfl
 have b9:=F9.binds (ps:=["thing"]) fun _ _ _ _ _ _ us hl=>by obtain ⟨_,rfl⟩:=len1 hl; rfl
 have b10:=F10.binds (ps:=["choices","thing"]) fun _ _ _ _ _ _ us hl=>by obtain ⟨_,_,rfl⟩:=len2 hl; rfl
 have b11:=F11.binds (ps:=["tongue"]) fun _ _ _ _ _ _ us hl=>by obtain ⟨_,rfl⟩:=len1 hl; rfl
 have b12:=F12.binds (ps:=["_law_script","_law_k"]) fun _ _ _ _ _ _ us hl=>by obtain ⟨_,_,rfl⟩:=len2 hl; rfl
 have b13:=F13.binds (ps:=["_law_cell_here","_law_k"]) fun _ _ _ _ _ _ us hl=>by obtain ⟨_,_,rfl⟩:=len2 hl; rfl
 have b14:=F14.binds (ps:=["_law_source_here","_law_many"]) fun _ _ _ _ _ _ us hl=>by obtain ⟨_,_,rfl⟩:=len2 hl; rfl
 have b15:=F15.binds (ps:=["_law_top","_law_bottom"]) fun _ _ _ _ _ _ us hl=>by obtain ⟨_,_,rfl⟩:=len2 hl; rfl
 have b16:=F16.binds (ps:=["_law_source_here"]) fun _ _ _ _ _ _ us hl=>by obtain ⟨_,rfl⟩:=len1 hl; rfl
 have b17:=F17.binds (ps:=["_law_source_here","_law_many"]) fun _ _ _ _ _ _ us hl=>by obtain ⟨_,_,rfl⟩:=len2 hl; rfl
 have b18:=F18.binds (ps:=["_law_script","_law_base","_law_most","_law_longs"]) fun _ _ _ _ _ _ us hl=>by obtain ⟨_,_,_,_,rfl⟩:=len4 hl; rfl
 have b19:=F19.binds (ps:=["_law_tongue_here"]) fun _ _ _ _ _ _ us hl=>by obtain ⟨_,rfl⟩:=len1 hl; rfl
 have b20:=F20.binds (ps:=["tongue","thing"]) fun _ _ _ _ _ _ us hl=>by obtain ⟨_,_,rfl⟩:=len2 hl; rfl
 have b21:=F21.binds (ps:=["tongue","thing"]) fun _ _ _ _ _ _ us hl=>by obtain ⟨_,_,rfl⟩:=len2 hl; rfl
 have b22:=F22.binds (ps:=["tongue","ahead","sign"]) fun _ _ _ _ _ _ us hl=>by obtain ⟨_,_,_,rfl⟩:=len3 hl; rfl
 have b23:=F23.binds (ps:=["tongue","text"]) fun _ _ _ _ _ _ us hl=>by obtain ⟨_,_,rfl⟩:=len2 hl; rfl
 have b24:=F24.binds (ps:=["tongue","word"]) fun _ _ _ _ _ _ us hl=>by obtain ⟨_,_,rfl⟩:=len2 hl; rfl
 have b25:=F25.binds (ps:=["tongue"]) fun _ _ _ _ _ _ us hl=>by obtain ⟨_,rfl⟩:=len1 hl; rfl
 have b26:=F26.binds (ps:=["tongue"]) fun _ _ _ _ _ _ us hl=>by obtain ⟨_,rfl⟩:=len1 hl; rfl
 have b27:=F27.binds (ps:=["tongue"]) fun _ _ _ _ _ _ us hl=>by obtain ⟨_,rfl⟩:=len1 hl; rfl
 have b28:=F28.binds (ps:=["_law_names"]) fun _ _ _ _ _ _ us hl=>by obtain ⟨_,rfl⟩:=len1 hl; rfl
 have b29:=F29.binds (ps:=["_law_signs_here","_law_many"]) fun _ _ _ _ _ _ us hl=>by obtain ⟨_,_,rfl⟩:=len2 hl; rfl
 have b30:=F30.binds (ps:=["_law_signs_here","_law_source_here"]) fun _ _ _ _ _ _ us hl=>by obtain ⟨_,_,rfl⟩:=len2 hl; rfl
 have b31:=F31.binds (ps:=["_law_names","_law_source_here"]) fun _ _ _ _ _ _ us hl=>by obtain ⟨_,_,rfl⟩:=len2 hl; rfl
 have b32:=F32.binds (ps:=["_law_names","_law_source_here"]) fun _ _ _ _ _ _ us hl=>by obtain ⟨_,_,rfl⟩:=len2 hl; rfl
 have b33:=F33.binds (ps:=["_law_tongue_here","_law_source_here"]) fun _ _ _ _ _ _ us hl=>by obtain ⟨_,_,rfl⟩:=len2 hl; rfl
 have b34:=F34.binds (ps:=["_law_kept"]) fun _ _ _ _ _ _ us hl=>by obtain ⟨_,rfl⟩:=len1 hl; rfl
 have b35:=F35.binds (ps:=["_law_thing","_law_door"]) fun _ _ _ _ _ _ us hl=>by obtain ⟨_,_,rfl⟩:=len2 hl; rfl
 have b36:=F36.binds (ps:=["_law_thing","_law_door"]) fun _ _ _ _ _ _ us hl=>by obtain ⟨_,_,rfl⟩:=len2 hl; rfl
 have cl:∀{D:Addr},PySem.W.hasDictIn K D=true→(PySem.W.clsIn K D).isSome=true:=fun q=>by
  obtain ⟨cd,z,_⟩:=PySem.W.any_some q
  rw [z]; rfl
 have C:Cl K mg [C0,C1,C2,C3,C4,C5,C6,C7,C8,C9,C10,C11,C12,C13,C14]:=by
  refine ⟨rfl,PySem.W.mg_of X G m0,PySem.W.mg_of X G m1,PySem.W.mg_of X G m2,PySem.W.mg_of X G m3,PySem.W.mg_of X G m4,PySem.W.mg_of X G m5,PySem.W.mg_of X G m6,PySem.W.mg_of X G m7,PySem.W.mg_of X G m8,PySem.W.mg_of X G m9,PySem.W.mg_of X G m10,PySem.W.mg_of X G m11,PySem.W.mg_of X G m12,PySem.W.mg_of X G m13,PySem.W.mg_of X G m14,⟨q1,q0,q2,q3,q4,q5,q6,qb⟩,q7,q8,q9,⟨r1,cl r2,r3⟩,fun i h1 h2=>?_,nx⟩
  have L:∀D∈[C2,C3,C4,C5,C6,C7,C8,C9,C10,C11,C12,C13,C14],Other K C1 D:=List.forall_mem_cons.mpr ⟨⟨n2,d2,t2⟩,List.forall_mem_cons.mpr ⟨⟨n3,d3,t3⟩,List.forall_mem_cons.mpr ⟨⟨n4,d4,t4⟩,List.forall_mem_cons.mpr ⟨⟨n5,d5,t5⟩,List.forall_mem_cons.mpr ⟨⟨n6,d6,t6⟩,List.forall_mem_cons.mpr ⟨⟨n7,d7,t7⟩,List.forall_mem_cons.mpr ⟨⟨n8,d8,t8⟩,List.forall_mem_cons.mpr ⟨⟨n9,d9,t9⟩,List.forall_mem_cons.mpr ⟨⟨n10,d10,t10⟩,List.forall_mem_cons.mpr ⟨⟨n11,d11,t11⟩,List.forall_mem_cons.mpr ⟨⟨n12,d12,t12⟩,List.forall_mem_cons.mpr ⟨⟨n13,d13,t13⟩,List.forall_mem_cons.mpr ⟨⟨n14,d14,t14⟩,fun _ h=>nomatch h⟩⟩⟩⟩⟩⟩⟩⟩⟩⟩⟩⟩⟩
  obtain ⟨j,rfl⟩:∃j,i=j + 2:=⟨i - 2,by omega⟩
  have hj:j < 13:=by omega
  show Other K C1 ([C2,C3,C4,C5,C6,C7,C8,C9,C10,C11,C12,C13,C14].getD j 0)
  rw [List.getD_eq_getElem?_getD,List.getElem?_eq_getElem (by exact hj)]
  exact L _ (List.getElem_mem _)
 refine ⟨PySem.W.fnOf "law" "law" (defArgs sLaw) (defBody sLaw) (defScope sLaw) .none kV37 dc37 pm37 an37 cd37 ct37,fun s v=>.of_eq rfl,fun base _ _ BM=>?_⟩
 have GW:=ok_whole (P:=l.prog) (w:=w) (mg:=mg) (base:=base) F0 B
 have GI:=ok_within (P:=l.prog) (w:=w) (mg:=mg) (base:=base) F1 GW (PySem.W.mg_of X G a0) k0 b0
 have GG:=ok_gcd (P:=l.prog) (w:=w) (mg:=mg) (base:=base) F4 B
 have GF:=ok_isF (P:=l.prog) (w:=w) (mg:=mg) (base:=base) F2 B GW (PySem.W.mg_of X G a0) k0 b0 GG (PySem.W.mg_of X G a4) k4 b4
 have GN:=ok_name (P:=l.prog) (w:=w) (mg:=mg) (base:=base) l3 c3 B CN3.ck BM (PySem.W.mg_of X G aLe) (PySem.W.mg_of X G aLo)
 have GL:=ok_letterG (P:=l.prog) (w:=w) (mg:=mg) (base:=base) F5 B GN (PySem.W.mg_of X G a3) k3 b3
 have GA:=ok_aboveG (P:=l.prog) (w:=w) (mg:=mg) (base:=base) F9 GF (PySem.W.mg_of X G a2) k2 b2
 have GR:=ok_rowG (P:=l.prog) (w:=w) (mg:=mg) (base:=base) F8 B GL (PySem.W.mg_of X G a5) k5 b5 GA (PySem.W.mg_of X G a9) k9 b9
 have GSi:=ok_signsG (P:=l.prog) (w:=w) (mg:=mg) (base:=base) l7 c7 B CN7.ck BM (PySem.W.mg_of X G aFe) (PySem.W.mg_of X G aMo) GR (PySem.W.mg_of X G a8) k8 b8
 have GSo:=ok_signsOfG (P:=l.prog) (w:=w) (mg:=mg) (base:=base) F11
 have GUl:=ok_unlikeG (P:=l.prog) (w:=w) (mg:=mg) (base:=base) F10 B
 have GLk:=ok_lookG (P:=l.prog) (w:=w) (mg:=mg) (base:=base) F6 B (PySem.W.mg_of X G aLw) (PySem.W.mg_of X G m1) IK GSi (PySem.W.mg_of X G a7) k7 b7 GSo (PySem.W.mg_of X G a11) k11 b11 GUl (PySem.W.mg_of X G a10) k10 b10 GI (PySem.W.mg_of X G a1) k1 b1
 have Gd0:=ok_dMs (P:=l.prog) (w:=w) (mg:=mg) (base:=base) F20 GLk (PySem.W.mg_of X G a6) k6 b6
 have Gd1:=ok_dIw (P:=l.prog) (w:=w) (mg:=mg) (base:=base) F21 GLk (PySem.W.mg_of X G a6) k6 b6
 have Gd2:=ok_dMc (P:=l.prog) (w:=w) (mg:=mg) (base:=base) F22 GLk (PySem.W.mg_of X G a6) k6 b6
 have Gd3:=ok_dWo (P:=l.prog) (w:=w) (mg:=mg) (base:=base) F23 GLk (PySem.W.mg_of X G a6) k6 b6
 have Gd4:=ok_dPo (P:=l.prog) (w:=w) (mg:=mg) (base:=base) F24 GLk (PySem.W.mg_of X G a6) k6 b6
 have Gd5:=ok_dWs (P:=l.prog) (w:=w) (mg:=mg) (base:=base) F25 GLk (PySem.W.mg_of X G a6) k6 b6
 have Gd6:=ok_dWc (P:=l.prog) (w:=w) (mg:=mg) (base:=base) F26 GLk (PySem.W.mg_of X G a6) k6 b6
 have Gd7:=ok_dTc (P:=l.prog) (w:=w) (mg:=mg) (base:=base) F27 GLk (PySem.W.mg_of X G a6) k6 b6
 have GCe:=ok_cell (P:=l.prog) (w:=w) (mg:=mg) (base:=base) F12 B
 have GS:=ok_source (P:=l.prog) (w:=w) (mg:=mg) (base:=base) F13 B
 have GD:=ok_draw (P:=l.prog) (w:=w) (mg:=mg) (base:=base) F14
 have GLo:=ok_low (P:=l.prog) (w:=w) (mg:=mg) (base:=base) F15 B
 have GPr:=ok_price (P:=l.prog) (w:=w) (mg:=mg) (base:=base) F16 GD (PySem.W.mg_of X G a14) k14 b14 GLo (PySem.W.mg_of X G a15) k15 b15
 have GLS:=ok_lsigns (P:=l.prog) (w:=w) (mg:=mg) (base:=base) F17 B GD (PySem.W.mg_of X G a14) k14 b14 GPr (PySem.W.mg_of X G a16) k16 b16
 have GTo:=ok_tongue (P:=l.prog) (w:=w) (mg:=mg) (base:=base) F18 B GCe (PySem.W.mg_of X G a12) k12 b12 GS (PySem.W.mg_of X G a13) k13 b13 GD (PySem.W.mg_of X G a14) k14 b14 GLS (PySem.W.mg_of X G a17) k17 b17
 have GCp:=ok_copy (P:=l.prog) (w:=w) (mg:=mg) (base:=base) F19 B
 have GSt:=ok_stranger (P:=l.prog) (w:=w) (mg:=mg) (base:=base) F28 B
 have GMo:=ok_moreS (P:=l.prog) (w:=w) (mg:=mg) (base:=base) F29 B
 have GBs:=ok_badS (P:=l.prog) (w:=w) (mg:=mg) (base:=base) F30 B GD (PySem.W.mg_of X G a14) k14 b14 GMo (PySem.W.mg_of X G a29) k29 b29
 have GBf:=ok_badF (P:=l.prog) (w:=w) (mg:=mg) (base:=base) F31 B GD (PySem.W.mg_of X G a14) k14 b14 GSt (PySem.W.mg_of X G a28) k28 b28
 have GBp:=ok_badP (P:=l.prog) (w:=w) (mg:=mg) (base:=base) F32 B GD (PySem.W.mg_of X G a14) k14 b14 GSt (PySem.W.mg_of X G a28) k28 b28
 have GSp:=ok_spoilt (P:=l.prog) (w:=w) (mg:=mg) (base:=base) F33 B GD (PySem.W.mg_of X G a14) k14 b14 GBs (PySem.W.mg_of X G a30) k30 b30 GBf (PySem.W.mg_of X G a31) k31 b31 GBp (PySem.W.mg_of X G a32) k32 b32
 have GIr:=ok_isref (P:=l.prog) (w:=w) (mg:=mg) (base:=base) F34 B (PySem.W.mg_none_of X G zve) C
 have GCl:=ok_call (P:=l.prog) (w:=w) (mg:=mg) (base:=base) F35 Gd0 (PySem.W.mg_of X G a20) k20 b20 Gd1 (PySem.W.mg_of X G a21) k21 b21 Gd2 (PySem.W.mg_of X G a22) k22 b22 Gd3 (PySem.W.mg_of X G a23) k23 b23 Gd4 (PySem.W.mg_of X G a24) k24 b24 Gd5 (PySem.W.mg_of X G a25) k25 b25 Gd6 (PySem.W.mg_of X G a26) k26 b26 Gd7 (PySem.W.mg_of X G a27) k27 b27 GLk (PySem.W.mg_of X G a6) k6 b6
 have GPa:=ok_part (P:=l.prog) (w:=w) (mg:=mg) (base:=base) F36 C GCl (PySem.W.mg_of X G a35) k35 b35 GIr (PySem.W.mg_of X G a34) k34 b34
 exact ok_law F37 B GTo (PySem.W.mg_of X G a18) k18 b18 GCp (PySem.W.mg_of X G a19) k19 b19 GCe (PySem.W.mg_of X G a12) k12 b12 GS (PySem.W.mg_of X G a13) k13 b13 GD (PySem.W.mg_of X G a14) k14 b14 GSp (PySem.W.mg_of X G a33) k33 b33 GPa (PySem.W.mg_of X G a36) k36 b36 GLk (PySem.W.mg_of X G a6) k6 b6
theorem walk {l:PySem.W.OpenLaw} {q:Program} {loose:List Str} {XP:(Str→Option Value)→Heap→Prop} {YP:World→Heap→Prop} {d:DefRec} {K:Params→PySem.W.Frag} (hn:l.most=some 63) (hdf:d.params.defaults=[])
  (hY:∀(w:World) (h:Heap),YP w h→(K w.params).In h) (hf:HF q ["is_name","are_signs"]) (hC:∀w:World,HC (K w.params) ["is_name","are_signs"]) (hKT:∀w:World,HT0 (K w.params) ["is_name","are_signs"])
  (F:∀(w:World) (mg:Str→Option Value) (fa:Addr) (h:Heap),(K w.params).In h→h.Ns mainGlobals mg→mg d.name=some (.ref fa)→
   ∃fd:FuncData,(∀(s:Shared) (u:Value),BindsTo s fd ⟨[u],[]⟩ [("_law_script",u)])∧∀base:Heap,(K w.params).In base→base.Ns mainGlobals mg→BmOf mg base→FnOk l.prog w (K w.params) mg base (CXE l.prog w) 11 fa fd ["_law_script"] (spLaw (tbOf (K w.params) "is_name") (tbOf (K w.params) "are_signs") (K w.params))) :
  PySem.W.WalkO q loose XP YP l.row.toRowW d [] (fun f vs=>PySem.call f vs):=by
 refine L2.walk_ofN ["is_name","are_signs"] (n:=63) (k:=11) (x:="_law_script") (CX:=fun w=>CXE l.prog w) (sp:=fun w=>spLaw (tbOf (K w.params) "is_name") (tbOf (K w.params) "are_signs") (K w.params)) hn (by decide) hdf ⟨rfl,by decide,by decide⟩ hY hf hC hKT F ?_ fun _ _ _ _ _ z=>?_
 ·intro w H a ns hl hT hS
  exact ⟨a,ns,rfl,hS,hl,⟨#[],hT "is_name" (by simp),trivial⟩,⟨#[],hT "are_signs" (by simp),trivial⟩,fun _=>rfl⟩
 ·obtain ⟨_,_,_,_,_,_,_,_,_,_,_,_,z⟩:=z
  exact z
theorem walkF {l:PySem.W.OpenLaw} {q:Program} {loose:List Str} {XP:(Str→Option Value)→Heap→Prop} {d:DefRec} {K:Params→PySem.W.Frag} (hn:l.most=some 63) (hdf:d.params.defaults=[])
  (hf:HF q ["is_name","are_signs"]) (hC:∀w:World,HC (filt (K w.params)) ["is_name","are_signs"]) (hKT:∀w:World,HT0 (filt (K w.params)) ["is_name","are_signs"])
  (F:∀(w:World) (mg:Str→Option Value) (fa:Addr) (h:Heap),(filt (K w.params)).In h→h.Ns mainGlobals mg→mg d.name=some (.ref fa)→
   ∃fd:FuncData,(∀(s:Shared) (u:Value),BindsTo s fd ⟨[u],[]⟩ [("_law_script",u)])∧∀base:Heap,(filt (K w.params)).In base→base.Ns mainGlobals mg→BmOf mg base→FnOk l.prog w (filt (K w.params)) mg base (CXE l.prog w) 11 fa fd ["_law_script"] (spLaw (tbOf (filt (K w.params)) "is_name") (tbOf (filt (K w.params)) "are_signs") (filt (K w.params)))) :
  PySem.W.WalkO q loose XP (fun w h=>(filt (K w.params)).In h) l.row.toRowW d [] (fun f vs=>PySem.call f vs):=
 walk (K:=fun P=>filt (K P)) hn hdf (fun w h Y=>Y) hf hC hKT F
end G1
open PySem PySem.W PyProof.Rows
local macro_rules | `(tactic| refine $t) => `(tactic| (refine' $t; try (case hl => exact HD.left_cutZ HP.e1 (by kernel_rfl) HP.e2 HP.pre HP.blk HP.body HP.chain (by kernel_rfl) HP.look1 (fun w => by kernel_rfl) (fun w => by kernel_rfl))))
set_option maxRecDepth 100000 in
set_option maxHeartbeats 0 in
theorem PySem.Challenge.cw_dearsigns_k05_what_is_no_tongue_holds : PySem.Challenge.rw_dearsigns_k05_what_is_no_tongue.Holds := by
 w_on; o_law; z_head; (case hw=>w_witness2)
 k_fill
 refine L2.walkX_of (fun _=>by kernel_rfl) (G1.walkF (l:=PySem.Challenge.rw_dearsigns_k05_what_is_no_tongue) rfl rfl ⟨⟨_,rfl⟩,⟨_,rfl⟩,trivial⟩ ?C ?KT ?F)
 case C=>
  intro w
  refine' ⟨⟨_,_,_,_,L2.codeN_mk ?x0_a ?x0_l ?x0_hc ?x0_lc ?x0_h11 ?x0_h18 ?x0_h7 ?x0_h9 ?x0_h10 ?x0_ne⟩,⟨_,_,_,_,L2.codeN_mk ?x1_a ?x1_l ?x1_hc ?x1_lc ?x1_h11 ?x1_h18 ?x1_h7 ?x1_h9 ?x1_h10 ?x1_ne⟩,trivial⟩
  (case x0_a=>refine L2.filt_ns ?_; k_is)
  (case x0_l=>refine L2.filt_look ?zz1 ?zz2; (case zz1=>k_is); (case zz2=>rfl))
  (case x0_hc=>rfl)
  (case x0_lc=>refine L2.filt_look ?zz1 ?zz2; (case zz1=>k_is); (case zz2=>rfl))
  (case x0_h11=>rfl)
  (case x0_h18=>rfl)
  (case x0_h7=>rfl)
  (case x0_h9=>rfl)
  (case x0_h10=>rfl)
  (case x0_ne=>decide)
  (case x1_a=>refine L2.filt_ns ?_; k_is)
  (case x1_l=>refine L2.filt_look ?zz1 ?zz2; (case zz1=>k_is); (case zz2=>rfl))
  (case x1_hc=>rfl)
  (case x1_lc=>refine L2.filt_look ?zz1 ?zz2; (case zz1=>k_is); (case zz2=>rfl))
  (case x1_h11=>rfl)
  (case x1_h18=>rfl)
  (case x1_h7=>rfl)
  (case x1_h9=>rfl)
  (case x1_h10=>rfl)
  (case x1_ne=>decide)
 case KT=>
  intro w
  exact ⟨by kernel_rfl,by kernel_rfl,trivial⟩
 case F=>
  intro w mg fa h KX G hmg
  refine' G1.all_mk KX G hmg (L2.codeN_mk ?y0_a ?y0_l ?y0_hc ?y0_lc ?y0_h11 ?y0_h18 ?y0_h7 ?y0_h9 ?y0_h10 ?y0_ne) (L2.codeN_mk ?y1_a ?y1_l ?y1_hc ?y1_lc ?y1_h11 ?y1_h18 ?y1_h7 ?y1_h9 ?y1_h10 ?y1_ne) ?a0 ?l0 ?c0 ?a1 ?l1 ?c1 ?a2 ?l2 ?c2 ?a3 ?l3 ?c3 ?a4 ?l4 ?c4 ?a5 ?l5 ?c5 ?a6 ?l6 ?c6 ?a7 ?l7 ?c7 ?a8 ?l8 ?c8 ?a9 ?l9 ?c9 ?a10 ?l10 ?c10 ?a11 ?l11 ?c11 ?a12 ?l12 ?c12 ?a13 ?l13 ?c13 ?a14 ?l14 ?c14 ?a15 ?l15 ?c15 ?a16 ?l16 ?c16 ?a17 ?l17 ?c17 ?a18 ?l18 ?c18 ?a19 ?l19 ?c19 ?a20 ?l20 ?c20 ?a21 ?l21 ?c21 ?a22 ?l22 ?c22 ?a23 ?l23 ?c23 ?a24 ?l24 ?c24 ?a25 ?l25 ?c25 ?a26 ?l26 ?c26 ?a27 ?l27 ?c27 ?a28 ?l28 ?c28 ?a29 ?l29 ?c29 ?a30 ?l30 ?c30 ?a31 ?l31 ?c31 ?a32 ?l32 ?c32 ?a33 ?l33 ?c33 ?a34 ?l34 ?c34 ?a35 ?l35 ?c35 ?a36 ?l36 ?c36 ?a37 ?l37 ?c37 ?aLe ?aLo ?aFe ?aMo ?aLw ?m0 ?m1 ?m2 ?m3 ?m4 ?m5 ?m6 ?m7 ?m8 ?m9 ?m10 ?m11 ?m12 ?m13 ?m14 ?q1 ?q0 ?q2 ?q3 ?q4 ?q5 ?q6 ?qb ?q7 ?q8 ?q9 ?r1 ?r2 ?r3 ?n2 ?d2 ?t2 ?n3 ?d3 ?t3 ?n4 ?d4 ?t4 ?n5 ?d5 ?t5 ?n6 ?d6 ?t6 ?n7 ?d7 ?t7 ?n8 ?d8 ?t8 ?n9 ?d9 ?t9 ?n10 ?d10 ?t10 ?n11 ?d11 ?t11 ?n12 ?d12 ?t12 ?n13 ?d13 ?t13 ?n14 ?d14 ?t14 ?nx ?IKf ?IK ?zve ?z_isi ?z_int ?z_bool ?z_tuple ?z_abs ?z_len ?z_enum ?z_str ?z_range ?z_max ?z_all ?z_set ?z_list ?z_min ?z_sum ?z_dict ?z_any ?z_reversed ?z_sorted
  (case y0_a=>refine L2.filt_ns ?_; k_is)
  (case y0_l=>refine L2.filt_look ?zz1 ?zz2; (case zz1=>k_is); (case zz2=>rfl))
  (case y0_hc=>rfl)
  (case y0_lc=>refine L2.filt_look ?zz1 ?zz2; (case zz1=>k_is); (case zz2=>rfl))
  (case y0_h11=>rfl)
  (case y0_h18=>rfl)
  (case y0_h7=>rfl)
  (case y0_h9=>rfl)
  (case y0_h10=>rfl)
  (case y0_ne=>decide)
  (case y1_a=>refine L2.filt_ns ?_; k_is)
  (case y1_l=>refine L2.filt_look ?zz1 ?zz2; (case zz1=>k_is); (case zz2=>rfl))
  (case y1_hc=>rfl)
  (case y1_lc=>refine L2.filt_look ?zz1 ?zz2; (case zz1=>k_is); (case zz2=>rfl))
  (case y1_h11=>rfl)
  (case y1_h18=>rfl)
  (case y1_h7=>rfl)
  (case y1_h9=>rfl)
  (case y1_h10=>rfl)
  (case y1_ne=>decide)
  (case a0=>refine L2.filt_ns ?_; k_is)
  (case l0=>refine L2.filt_look ?zz1 ?zz2; (case zz1=>k_is); (case zz2=>rfl))
  (case c0=>refine L2.filt_code ?_; k_is)
  (case a1=>refine L2.filt_ns ?_; k_is)
  (case l1=>refine L2.filt_look ?zz1 ?zz2; (case zz1=>k_is); (case zz2=>rfl))
  (case c1=>refine L2.filt_code ?_; k_is)
  (case a2=>refine L2.filt_ns ?_; k_is)
  (case l2=>refine L2.filt_look ?zz1 ?zz2; (case zz1=>k_is); (case zz2=>rfl))
  (case c2=>refine L2.filt_code ?_; k_is)
  (case a3=>refine L2.filt_ns ?_; k_is)
  (case l3=>refine L2.filt_look ?zz1 ?zz2; (case zz1=>k_is); (case zz2=>rfl))
  (case c3=>refine L2.filt_code ?_; k_is)
  (case a4=>refine L2.filt_ns ?_; k_is)
  (case l4=>refine L2.filt_look ?zz1 ?zz2; (case zz1=>k_is); (case zz2=>rfl))
  (case c4=>refine L2.filt_code ?_; k_is)
  (case a5=>refine L2.filt_ns ?_; k_is)
  (case l5=>refine L2.filt_look ?zz1 ?zz2; (case zz1=>k_is); (case zz2=>rfl))
  (case c5=>refine L2.filt_code ?_; k_is)
  (case a6=>refine L2.filt_ns ?_; k_is)
  (case l6=>refine L2.filt_look ?zz1 ?zz2; (case zz1=>k_is); (case zz2=>rfl))
  (case c6=>refine L2.filt_code ?_; k_is)
  (case a7=>refine L2.filt_ns ?_; k_is)
  (case l7=>refine L2.filt_look ?zz1 ?zz2; (case zz1=>k_is); (case zz2=>rfl))
  (case c7=>refine L2.filt_code ?_; k_is)
  (case a8=>refine L2.filt_ns ?_; k_is)
  (case l8=>refine L2.filt_look ?zz1 ?zz2; (case zz1=>k_is); (case zz2=>rfl))
  (case c8=>refine L2.filt_code ?_; k_is)
  (case a9=>refine L2.filt_ns ?_; k_is)
  (case l9=>refine L2.filt_look ?zz1 ?zz2; (case zz1=>k_is); (case zz2=>rfl))
  (case c9=>refine L2.filt_code ?_; k_is)
  (case a10=>refine L2.filt_ns ?_; k_is)
  (case l10=>refine L2.filt_look ?zz1 ?zz2; (case zz1=>k_is); (case zz2=>rfl))
  (case c10=>refine L2.filt_code ?_; k_is)
  (case a11=>refine L2.filt_ns ?_; k_is)
  (case l11=>refine L2.filt_look ?zz1 ?zz2; (case zz1=>k_is); (case zz2=>rfl))
  (case c11=>refine L2.filt_code ?_; k_is)
  (case a12=>refine L2.filt_ns ?_; k_is)
  (case l12=>refine L2.filt_look ?zz1 ?zz2; (case zz1=>k_is); (case zz2=>rfl))
  (case c12=>refine L2.filt_code ?_; k_is)
  (case a13=>refine L2.filt_ns ?_; k_is)
  (case l13=>refine L2.filt_look ?zz1 ?zz2; (case zz1=>k_is); (case zz2=>rfl))
  (case c13=>refine L2.filt_code ?_; k_is)
  (case a14=>refine L2.filt_ns ?_; k_is)
  (case l14=>refine L2.filt_look ?zz1 ?zz2; (case zz1=>k_is); (case zz2=>rfl))
  (case c14=>refine L2.filt_code ?_; k_is)
  (case a15=>refine L2.filt_ns ?_; k_is)
  (case l15=>refine L2.filt_look ?zz1 ?zz2; (case zz1=>k_is); (case zz2=>rfl))
  (case c15=>refine L2.filt_code ?_; k_is)
  (case a16=>refine L2.filt_ns ?_; k_is)
  (case l16=>refine L2.filt_look ?zz1 ?zz2; (case zz1=>k_is); (case zz2=>rfl))
  (case c16=>refine L2.filt_code ?_; k_is)
  (case a17=>refine L2.filt_ns ?_; k_is)
  (case l17=>refine L2.filt_look ?zz1 ?zz2; (case zz1=>k_is); (case zz2=>rfl))
  (case c17=>refine L2.filt_code ?_; k_is)
  (case a18=>refine L2.filt_ns ?_; k_is)
  (case l18=>refine L2.filt_look ?zz1 ?zz2; (case zz1=>k_is); (case zz2=>rfl))
  (case c18=>refine L2.filt_code ?_; k_is)
  (case a19=>refine L2.filt_ns ?_; k_is)
  (case l19=>refine L2.filt_look ?zz1 ?zz2; (case zz1=>k_is); (case zz2=>rfl))
  (case c19=>refine L2.filt_code ?_; k_is)
  (case a20=>refine L2.filt_ns ?_; k_is)
  (case l20=>refine L2.filt_look ?zz1 ?zz2; (case zz1=>k_is); (case zz2=>rfl))
  (case c20=>refine L2.filt_code ?_; k_is)
  (case a21=>refine L2.filt_ns ?_; k_is)
  (case l21=>refine L2.filt_look ?zz1 ?zz2; (case zz1=>k_is); (case zz2=>rfl))
  (case c21=>refine L2.filt_code ?_; k_is)
  (case a22=>refine L2.filt_ns ?_; k_is)
  (case l22=>refine L2.filt_look ?zz1 ?zz2; (case zz1=>k_is); (case zz2=>rfl))
  (case c22=>refine L2.filt_code ?_; k_is)
  (case a23=>refine L2.filt_ns ?_; k_is)
  (case l23=>refine L2.filt_look ?zz1 ?zz2; (case zz1=>k_is); (case zz2=>rfl))
  (case c23=>refine L2.filt_code ?_; k_is)
  (case a24=>refine L2.filt_ns ?_; k_is)
  (case l24=>refine L2.filt_look ?zz1 ?zz2; (case zz1=>k_is); (case zz2=>rfl))
  (case c24=>refine L2.filt_code ?_; k_is)
  (case a25=>refine L2.filt_ns ?_; k_is)
  (case l25=>refine L2.filt_look ?zz1 ?zz2; (case zz1=>k_is); (case zz2=>rfl))
  (case c25=>refine L2.filt_code ?_; k_is)
  (case a26=>refine L2.filt_ns ?_; k_is)
  (case l26=>refine L2.filt_look ?zz1 ?zz2; (case zz1=>k_is); (case zz2=>rfl))
  (case c26=>refine L2.filt_code ?_; k_is)
  (case a27=>refine L2.filt_ns ?_; k_is)
  (case l27=>refine L2.filt_look ?zz1 ?zz2; (case zz1=>k_is); (case zz2=>rfl))
  (case c27=>refine L2.filt_code ?_; k_is)
  (case a28=>refine L2.filt_ns ?_; k_is)
  (case l28=>refine L2.filt_look ?zz1 ?zz2; (case zz1=>k_is); (case zz2=>rfl))
  (case c28=>refine L2.filt_code ?_; k_is)
  (case a29=>refine L2.filt_ns ?_; k_is)
  (case l29=>refine L2.filt_look ?zz1 ?zz2; (case zz1=>k_is); (case zz2=>rfl))
  (case c29=>refine L2.filt_code ?_; k_is)
  (case a30=>refine L2.filt_ns ?_; k_is)
  (case l30=>refine L2.filt_look ?zz1 ?zz2; (case zz1=>k_is); (case zz2=>rfl))
  (case c30=>refine L2.filt_code ?_; k_is)
  (case a31=>refine L2.filt_ns ?_; k_is)
  (case l31=>refine L2.filt_look ?zz1 ?zz2; (case zz1=>k_is); (case zz2=>rfl))
  (case c31=>refine L2.filt_code ?_; k_is)
  (case a32=>refine L2.filt_ns ?_; k_is)
  (case l32=>refine L2.filt_look ?zz1 ?zz2; (case zz1=>k_is); (case zz2=>rfl))
  (case c32=>refine L2.filt_code ?_; k_is)
  (case a33=>refine L2.filt_ns ?_; k_is)
  (case l33=>refine L2.filt_look ?zz1 ?zz2; (case zz1=>k_is); (case zz2=>rfl))
  (case c33=>refine L2.filt_code ?_; k_is)
  (case a34=>refine L2.filt_ns ?_; k_is)
  (case l34=>refine L2.filt_look ?zz1 ?zz2; (case zz1=>k_is); (case zz2=>rfl))
  (case c34=>refine L2.filt_code ?_; k_is)
  (case a35=>refine L2.filt_ns ?_; k_is)
  (case l35=>refine L2.filt_look ?zz1 ?zz2; (case zz1=>k_is); (case zz2=>rfl))
  (case c35=>refine L2.filt_code ?_; k_is)
  (case a36=>refine L2.filt_ns ?_; k_is)
  (case l36=>refine L2.filt_look ?zz1 ?zz2; (case zz1=>k_is); (case zz2=>rfl))
  (case c36=>refine L2.filt_code ?_; k_is)
  (case a37=>refine L2.filt_ns ?_; k_is)
  (case l37=>refine L2.filt_look ?zz1 ?zz2; (case zz1=>k_is); (case zz2=>rfl))
  (case c37=>refine L2.filt_code ?_; k_is)
  (case aLe=>refine L2.filt_ns ?_; k_is)
  (case aLo=>refine L2.filt_ns ?_; k_is)
  (case aFe=>refine L2.filt_ns ?_; k_is)
  (case aMo=>refine L2.filt_ns ?_; k_is)
  (case aLw=>refine L2.filt_ns ?_; k_is)
  (case m0=>refine L2.filt_ns ?_; k_is)
  (case m1=>refine L2.filt_ns ?_; k_is)
  (case m2=>refine L2.filt_ns ?_; k_is)
  (case m3=>refine L2.filt_ns ?_; k_is)
  (case m4=>refine L2.filt_ns ?_; k_is)
  (case m5=>refine L2.filt_ns ?_; k_is)
  (case m6=>refine L2.filt_ns ?_; k_is)
  (case m7=>refine L2.filt_ns ?_; k_is)
  (case m8=>refine L2.filt_ns ?_; k_is)
  (case m9=>refine L2.filt_ns ?_; k_is)
  (case m10=>refine L2.filt_ns ?_; k_is)
  (case m11=>refine L2.filt_ns ?_; k_is)
  (case m12=>refine L2.filt_ns ?_; k_is)
  (case m13=>refine L2.filt_ns ?_; k_is)
  (case m14=>refine L2.filt_ns ?_; k_is)
  (case q1=>kernel_rfl)
  (case q0=>kernel_rfl)
  (case q2=>kernel_rfl)
  (case q3=>kernel_rfl)
  (case q4=>kernel_rfl)
  (case q5=>kernel_rfl)
  (case q6=>kernel_rfl)
  (case qb=>kernel_rfl)
  (case q7=>kernel_rfl)
  (case q8=>kernel_rfl)
  (case q9=>kernel_rfl)
  (case r1=>kernel_rfl)
  (case r2=>kernel_rfl)
  (case r3=>kernel_rfl)
  (case n2=>kernel_rfl)
  (case d2=>kernel_rfl)
  (case t2=>kernel_rfl)
  (case n3=>kernel_rfl)
  (case d3=>kernel_rfl)
  (case t3=>kernel_rfl)
  (case n4=>kernel_rfl)
  (case d4=>kernel_rfl)
  (case t4=>kernel_rfl)
  (case n5=>kernel_rfl)
  (case d5=>kernel_rfl)
  (case t5=>kernel_rfl)
  (case n6=>kernel_rfl)
  (case d6=>kernel_rfl)
  (case t6=>kernel_rfl)
  (case n7=>kernel_rfl)
  (case d7=>kernel_rfl)
  (case t7=>kernel_rfl)
  (case n8=>kernel_rfl)
  (case d8=>kernel_rfl)
  (case t8=>kernel_rfl)
  (case n9=>kernel_rfl)
  (case d9=>kernel_rfl)
  (case t9=>kernel_rfl)
  (case n10=>kernel_rfl)
  (case d10=>kernel_rfl)
  (case t10=>kernel_rfl)
  (case n11=>kernel_rfl)
  (case d11=>kernel_rfl)
  (case t11=>kernel_rfl)
  (case n12=>kernel_rfl)
  (case d12=>kernel_rfl)
  (case t12=>kernel_rfl)
  (case n13=>kernel_rfl)
  (case d13=>kernel_rfl)
  (case t13=>kernel_rfl)
  (case n14=>kernel_rfl)
  (case d14=>kernel_rfl)
  (case t14=>kernel_rfl)
  (case nx=>kernel_rfl)
  (case IKf=>refine L2.filt_find ?_; k_is)
  (case IK=>(refine' L2.initK_mk ?IK_lC ?IK_tl ?IK_no ?IK_ni ?IK_lf ?IK_cq ?IK_hb ?IK_hbi ?IK_hXs ?IK_hce ?IK_h1 ?IK_hX2 ?IK_h3 ?IK_h4 ?IK_g1 ?IK_g2 ?IK_g3 ?IK_hcl ?IK_hpa ?IK_har ?IK_hcd ?IK_lc2 ?IK_hc4 ?IK_hfi ?IK_hns ?IK_hgl ?IK_hbl ?IK_gs ?IK_lcc ?IK_m1 ?IK_m2 ?IK_op ?IK_hline ?IK_hin ?IK_hsw ?IK_hs ?IK_hp ?IK_ht ?IK_hh ?IK_hdb ?IK_hml; (case IK_lf=>refine L2.filt_look ?zz1 ?zz2; (case zz1=>k_is); (case zz2=>rfl)); (case IK_lC=>refine L2.filt_look ?zz1 ?zz2; (case zz1=>k_is); (case zz2=>rfl)); (case IK_ni=>refine L2.filt_ns ?_; k_is); (case IK_tl=>kernel_rfl); (case IK_no=>kernel_rfl); (case IK_cq=>refine L2.filt_code ?_; first | k_is | kernel_rfl); (case IK_hb=>rfl); (case IK_hbi=>exact fun s e u=>.of_eq rfl); (case IK_hXs=>decide); (case IK_hce=>decide); (case IK_h1=>rfl); (case IK_hX2=>rfl); (case IK_h3=>rfl); (case IK_h4=>rfl); (case IK_g1=>rfl); (case IK_g2=>rfl); (case IK_g3=>rfl); (case IK_hcl=>rfl); (case IK_hpa=>rfl); (case IK_har=>rfl); (case IK_hcd=>rfl); (case IK_lc2=>refine L2.filt_look ?zz1 ?zz2; (case zz1=>k_is); (case zz2=>rfl)); (case IK_hc4=>rfl); (case IK_hfi=>decide +kernel); (case IK_hns=>decide +kernel); (case IK_hgl=>rfl); (case IK_hbl=>rfl); (case IK_gs=>refine L2.filt_ns ?_; k_is); (case IK_lcc=>refine L2.filt_look ?zz1 ?zz2; (case zz1=>k_is); (case zz2=>rfl)); (case IK_m1=>kernel_rfl); (case IK_m2=>kernel_rfl); (case IK_op=>refine L2.filt_ns ?_; k_is); (case IK_hline=>rfl); (case IK_hin=>exact fun L=>rfl); (case IK_hsw=>exact fun L=>rfl); (case IK_hs=>kernel_rfl); (case IK_hp=>kernel_rfl); (case IK_ht=>kernel_rfl); (case IK_hh=>kernel_rfl); (case IK_hdb=>decide); (case IK_hml=>decide)))
  (case zve=>refine L2.filt_ns ?_; k_is)
  (case z_isi=>refine L2.filt_ns ?_; k_is)
  (case z_int=>refine L2.filt_ns ?_; k_is)
  (case z_bool=>refine L2.filt_ns ?_; k_is)
  (case z_tuple=>refine L2.filt_ns ?_; k_is)
  (case z_abs=>refine L2.filt_ns ?_; k_is)
  (case z_len=>refine L2.filt_ns ?_; k_is)
  (case z_enum=>refine L2.filt_ns ?_; k_is)
  (case z_str=>refine L2.filt_ns ?_; k_is)
  (case z_range=>refine L2.filt_ns ?_; k_is)
  (case z_max=>refine L2.filt_ns ?_; k_is)
  (case z_all=>refine L2.filt_ns ?_; k_is)
  (case z_set=>refine L2.filt_ns ?_; k_is)
  (case z_list=>refine L2.filt_ns ?_; k_is)
  (case z_min=>refine L2.filt_ns ?_; k_is)
  (case z_sum=>refine L2.filt_ns ?_; k_is)
  (case z_dict=>refine L2.filt_ns ?_; k_is)
  (case z_any=>refine L2.filt_ns ?_; k_is)
  (case z_reversed=>refine L2.filt_ns ?_; k_is)
  (case z_sorted=>refine L2.filt_ns ?_; k_is)
